import PyProof.Rows.All
import Wide.All
import OpenK.AllK
import Wide.FinOn
import KE.KExcInit
import HandS.ForMost
import HandS.Exc
import HandS.ExcOwn
import HandS.ExcInit
import HandS.ExcValue
import HandS.IsInst
import HandS.ExcIs
import KE.KExcIs
import HandS.MakeKwOnly
import HandS.SetFor
import HandS.RaiseMore
import KE.KxIndex
import HandS.Wide
import HandS.ReplaceLit
import HandS.Codes
import HandS.SortKw
import HandS.SetTxt0
import HandS.Strs
import HandS.Walk
import HandS.WordsExc
import HandS.Base
import PyProof.ToksMono
import HandS.Call
import HandS.List
import HandS.Comp
import HandS.Replace
import HandS.Words
import PyProof.StrReplace2
import PyProof.MeetsStr3
import HandS.Text
import HandS.Style
import HandS.TryOnly
import HandS.Dict
import KE.KDictZip
import KE.GoesZip
import KE.GoesMore
import HandS.ReplaceList
import PyProof.NeKinds
import PyProof.LongRange
import HandS.OwnEq
import PyProof.InstEq
import HandS.EndTab
import HandS.Defaults
import PySem.Challenge.RW_linestream_k05_whole_changes_by_rules
set_option Elab.async false
set_option linter.all false
section
set_option Elab.async false
set_option linter.all false
set_option maxRecDepth 100000
set_option maxHeartbeats 5000000
namespace XK
open PySem PySem.W PySem.Calls PySem.HandSPX
section
variable {pg : Program} {w : World} {A : Around} {E : Value → Shared → Prop} {R : Result → Shared → Prop} {h : Heap} {gs : Array GenState} {dr : Drawn} {tk0 : Nat} {ost : OsState}
variable {nam q : Str} {C N : Addr} {bss bml bmb : List Value} {hdc : Bool} {snl : List Str} {subc : List Value} {abst : Bool} {coll : Option Bool} {ddc : Option Addr} {k0 k1 k2 k3 k5 : Option Value} {B nid iid : String}
variable {us : List Value} {kw : List (Str × Value)}
theorem free_check {B : String} {a b : String} {n : Nat} {names : List Str} :
    Bind.check ⟨.any, B, B, .cls, [⟨"args", .varPos, false⟩, ⟨"kwargs", .varKw, false⟩]⟩ a b n names = pure () := by
  cases names with
  | nil => rfl
  | cons x r => rfl
theorem new_checked {M : Model} (F : ExcBaseFacts B nid iid bmb) (hT : ∀ X : String, bml.contains (.type X) = bmb.contains (.type X)) {Q : Unit → Shared → Prop}
    (hC : h.get? C = some (excClassObj nam q C N bss bml hdc snl subc abst coll ddc k0 k1 k2 k3 k5 nid)) (hq : Q () ⟨h, gs, dr, tk0, ost⟩) :
    wpAny M A (checkBuiltinCall nid ⟨.ref C :: us, kw⟩) Q E ⟨h, gs, dr, tk0, ost⟩ := by
  have c1 : (Value.ref C :: bml).contains (.type B) = true := by
    rw [List.contains_cons, hT, F.hasB, Bool.or_true]
  have c2 := F.noStar
  simp only [F.newKind, F.newSplit, F.newRow,
    checkBuiltinCall]
  repeat (first
    | refine wpAny_loadPart_at hC ?_
    | (refine wpAny_isSubtype_exc hC ?_; rw [c1])
    | refine wpAny_staticBase_exc hC ?_
    | refine wpAny_madeBy_exc hC ?_
    | simp only [bne_self_eq_false, Bool.false_eq_true, if_false]
    | wp_step)
  exact hq
/-- the object is laid, behind the tuple of what was passed by position -/
theorem new_laid (F : ExcBaseFacts B nid iid bmb) (hT : ∀ X : String, bml.contains (.type X) = bmb.contains (.type X)) (hu : us.length ≤ sizeLine)
    (hC : h.get? C = some (excClassObj nam q C N bss bml hdc snl subc abst coll ddc k0 k1 k2 k3 k5 nid))
    (hq : R (.ok (.ret (.ref (h.objs.size + 1)))) ⟨(h.push (kdv_tup us)).push (excO C h.objs.size), gs, dr, tk0, ost⟩) :
    codeAny (model pg w) A (.builtin nid ⟨.ref C :: us, kw⟩) R ⟨h, gs, dr, tk0, ost⟩ := by
  have ends := F.ends
  have c1 : (Value.ref C :: bml).contains (.type B) = true := by
    rw [List.contains_cons, hT, F.hasB, Bool.or_true]
  have c2 : (Value.ref C :: bml).contains (.type "AttributeError") = false := by
    rw [List.contains_cons, hT, F.noAttr]
    rfl
  have c3 : (Value.ref C :: bml).contains (.type "NameError") = false := by
    rw [List.contains_cons, hT, F.noName]
    rfl
  refine codeAny_builtinAt
    F.entry ?_
  unfold
    Builtin.«BaseException.__new__»
  refine wpAt_bind ?_
  show wpAt _ _ _ (stack >>= _)
    _ _ _
  refine wpAt_bind (wpAt_stack fun pp qq => wpAt_of_wpAny ?_)
  wp_walk
  refine wpAt_of_wpAny ?_
  rw [F.owner]
  repeat (first
    | with_reducible refine wpAny_madeHere_exc F.canon hC ?_
    | with_reducible refine wpAny_loadPart_at hC ?_
    | (with_reducible refine wpAny_isSubtype_exc hC ?_
       first | rw [c1] | rw [c2] | rw [c3])
    | wp_step)
  show R _ _
  rw [Heap.size_push]
  exact hq
theorem type_called {fI : Addr} {Q : Fin → Shared → Prop} (F : ExcBaseFacts B nid iid bmb) (hT : ∀ X : String, bml.contains (.type X) = bmb.contains (.type X)) (hu : us.length ≤ sizeLine)
    (hC : h.get? C = some (excClassObj nam q C N bss bml hdc snl subc abst coll ddc k0 k1 k2 k3 k5 nid))
    (hi : Looks (model pg w) h (typeLookup (.ref C) "__init__") (some (.ref fI)))
    (hb : ∀ self, Looks (model pg w) h (bindSpecial (.ref fI) self) (.ref fI, [self]))
    (hq : codeAny (model pg w) A (.call (.ref fI) ⟨.ref (h.objs.size + 1) :: us, kw⟩)
      (fun res s' => match res with | .ok (.ret v) => v = .none ∧ Q (.done (.ret (.ref (h.objs.size + 1)))) s' | .ok _ => False | .error e => E e s')
      ⟨(h.push (kdv_tup us)).push (excO C h.objs.size), gs, dr, tk0, ost⟩) :
    wpAny (model pg w) A (Builtin.«type.__call__» ⟨.ref C :: us, kw⟩) Q E ⟨h, gs, dr, tk0, ost⟩ := by
  repeat (first
    | with_reducible refine wpAny_loadPart_at hC ?_
    | with_reducible refine wpAny_madeBy_exc hC ?_
    | wp_step)
  refine codeAny_call_builtin_code (Code.quiet_builtin _ F.quiet) (new_checked F hT hC ?_)
  refine new_laid F hT hu hC ?_
  show wpAny _ _ _ _ _ _
  have kk : ∀ b o, h.get? b = some o → ((h.push (kdv_tup us)).push (excO C h.objs.size)).get? b = some o := fun b o e =>
    Heap.get?_push_of_some _ (Heap.get?_push_of_some _ e)
  have got : ((h.push (kdv_tup us)).push (excO C h.objs.size)).get? (h.objs.size + 1) = some (excO C h.objs.size) := by heap_get
  have gotC := kk _ _ hC
  have self : (Value.ref C :: bml).contains (.ref C) = true := by simp
  have i1 := hi.keeps kk
  have b1 := (hb (.ref (h.objs.size + 1))).keeps kk
  unfold isInstance
  repeat (first
    | with_reducible refine wpAny_loadPart_at got ?_
    | (with_reducible refine wpAny_isSubtype_exc gotC ?_
       rw [self])
    | wp_step)
  show wpAny _ _ (typeLookup (.ref C) _)
    _ _ _
  refine i1.at (wpAny_holding (wpAny_bind (b1.at ?_)))
  refine wpAny_bind (wpAny_call (codeAny_mono hq fun res s' z => ?_))
  rcases res with er | (vv | _ | _ | _) <;> first | exact z | exact z.elim | skip
  obtain ⟨rfl, z⟩ := z
  first
    | exact wpAny_pure
        (wpAny_pure z)
    | (wp_walk; exact z)
theorem called {fI : Addr} (F : ExcBaseFacts B nid iid bmb) (hT : ∀ X : String, bml.contains (.type X) = bmb.contains (.type X)) (hu : us.length ≤ sizeLine)
    (hC : h.get? C = some (excClassObj nam q C N bss bml hdc snl subc abst coll ddc k0 k1 k2 k3 k5 nid))
    (hi : Looks (model pg w) h (typeLookup (.ref C) "__init__") (some (.ref fI)))
    (hb : ∀ self, Looks (model pg w) h (bindSpecial (.ref fI) self) (.ref fI, [self]))
    (hq : codeAny (model pg w) (A.under (.builtin "type.__call__" ⟨.ref C :: us, kw⟩)) (.call (.ref fI) ⟨.ref (h.objs.size + 1) :: us, kw⟩) (InitBack (h.objs.size + 1) R)
      ⟨(h.push (kdv_tup us)).push (excO C h.objs.size), gs, dr, tk0, ost⟩) :
    codeAny (model pg w) A (.call (.ref C) ⟨us, kw⟩) R ⟨h, gs, dr, tk0, ost⟩ := by
  have f1 := tc_lookup
  have f2 := tc_bind (.ref C)
  have isT : (⟨h, gs, dr, tk0, ost⟩ : Shared).TypeIs (.ref C) "type" := ⟨_, hC, rfl⟩
  refine codeAny_of_tree ?_
  show wpAny _ _ (callAny (.ref C) _)
    _ _ _
  repeat (any_goals (first
    | assumption
    | with_reducible refine wpAny_loadPart_at hC ?_
    | wp_step))
  refine ⟨rfl, ?_⟩
  refine codeAny_call_builtin_at (Code.quiet_builtin _ (by decide +kernel)) entry_typeCall (wpAny_check_type_call_sub hC (type_called F hT hu hC hi hb ?_))
  refine codeAny_mono hq fun res s' z => ?_
  rcases res with er | (vv | _ | _ | _) <;> exact z
end
/-! ### self.f = v on an exception of any built-in base, that has no dict yet -/
section
open Builtin.ObjectAttr Builtin
variable {pg : Program} {w : World} {A : Around} {E : Value → Shared → Prop} {R : Result → Shared → Prop} {hpz : Heap} {gs : Array GenState} {dr : Drawn} {tk0 : Nat} {ost : OsState}
variable {K : Frag} {name : Str} {tk : Tok} {v : Value} {x C dx : Addr} {fv : Array Value} {cd : ClassData} {bmb : List Value}
/-- what a class over a built-in exception says of stores -/
structure Opn (cd : ClassData) : Prop where
  ne : cd.mro.isEmpty = false
  ob : cd.mro.contains (.type "object") = true
  ps : ∀ self : Value, refuseLoop self "__setattr__" cd.mro = pure ()
  hd : cd.hasDict = true
theorem first_field (X : K.In hpz) (hx : hpz.get? x = some { cls := .ref C, data := .fields fv }) (hcd : clsIn K C = some cd) (O : Opn cd) (ha : findIn K (.ref C) name = some none)
    (hq : ∀ h' tk' dx, (∀ b o, b ≠ x → hpz.get? b = some o → h'.get? b = some o) → hpz.objs.size ≤ dx → dx ≠ x → h'.get? x = some { cls := .ref C, dict := some dx, data := .fields fv } →
      h'.Ns1 dx (fun y => if y = name then some v else none) → R (.ok (.ret .none)) ⟨h', gs, dr, tk', ost⟩) :
    codeAny (model pg w) A (.call (.builtin "object.__setattr__") ⟨[.ref x, .str name tk, v], []⟩) R ⟨hpz, gs, dr, tk0, ost⟩ := by
  have J : InstAt hpz x { cls := .ref C, data := .fields fv } C none := ⟨hx, rfl, rfl, trivial⟩
  have S := F.store_object
  have far : x ≠ hpz.objs.size := Nat.ne_of_lt (Heap.lt_size hx)
  have subc : Looks (model pg w) hpz (isInstance (.ref x) (.type "object")) true :=
    J.type.andThen (looks_mroIn X (by
      unfold mroIn
      rw [hcd, Option.bind_some, if_neg (by rw [O.ne]; decide), O.ob]))
  refine codeAny_call_builtin S.slot.plain S.entry ?_
  refine @check_slot (model pg w) _ _ ⟨hpz, gs, dr, tk0, ost⟩ "object.__setattr__" "object" "__setattr__" (.ref x) [.str name tk, v] [] _ S.kind S.split subc (S.args (.ref x) (.str name tk) v) ?_
  have m1 : Looks (model pg w) hpz (mroOf (.ref C)) cd.mro := (looks_clsIn X hcd).andThen .now
  have m2 : Looks (model pg w) hpz (storeTaker? none) none := .now
  have m3 : Looks (model pg w) hpz (classData C) cd := looks_clsIn X hcd
  rw [osa_eq, refuse_eq]
  refine wpAny_bind (wpAny_bind (J.type.at (wpAny_bind (m1.at ?_))))
  rw [O.ps]
  refine wpAny_pure (wpAny_bind (J.type.at (wpAny_bind ((looks_findIn X ha).at (wpAny_bind (m2.at ?_))))))
  show wpAny _ _ (storeInOwnDict (.ref x) (.ref C) (.str name tk) name v false)
    _ _ _
  have hh := O.hd
  obtain ⟨nam, bss, mro, ns, qn, hdd, snl, sb, abst, coll, del⟩ := cd
  dsimp only at hh
  subst hh
  unfold storeInOwnDict
    ownDictForStores
  repeat (first
    | with_reducible refine store_in_new ?_ ?_
    | with_reducible refine wpAny_loadPart_at hx ?_
    | with_reducible refine m3.at ?_
    | wp_step)
  · refine ⟨_, #[], _, (Heap.get?_update_ne _ _ _ _ far.symm).trans (Heap.get?_push_at rfl rfl), rfl, fun e he => absurd he (by simp), fun _ => rfl⟩
  · intro h' tk' hn' same
    have hx₁ : (hpz.push { cls := .type "dict", data := .dict #[] }).get? x = some { cls := .ref C, data := .fields fv } := Heap.get?_push_of_some _ hx
    refine hq h' tk' hpz.objs.size (fun b o hb ho => ?_) (Nat.le_refl _) far.symm ?_ hn'
    · have e1 := same.2 b (Nat.ne_of_lt (Heap.lt_size ho))
      exact e1.trans ((Heap.get?_update_ne _ _ _ _ hb).trans (Heap.get?_push_of_some _ ho))
    · have e2 := same.2 x far
      exact e2.trans (Heap.get?_update_self _ hx₁ rfl)
theorem next_field {m0 : Str → Option Value} {nl : List Str} (X : K.In hpz) (hx : hpz.get? x = some { cls := .ref C, dict := some dx, data := .fields fv }) (hns : hpz.Ns1 dx m0) (hw : Within m0 nl) (hz : nl.length ≤ 1000)
    (hcd : clsIn K C = some cd) (O : Opn cd) (ha : findIn K (.ref C) name = some none)
    (hq : ∀ h' tk', (∀ b o, b ≠ dx → hpz.get? b = some o → h'.get? b = some o) → h'.Ns1 dx (fun y => if y = name then some v else m0 y) → R (.ok (.ret .none)) ⟨h', gs, dr, tk', ost⟩) :
    codeAny (model pg w) A (.call (.builtin "object.__setattr__") ⟨[.ref x, .str name tk, v], []⟩) R ⟨hpz, gs, dr, tk0, ost⟩ := by
  obtain ⟨oD, _, _, hoD, _, _⟩ := hns.count hw
  have J : InstAt hpz x { cls := .ref C, dict := some dx, data := .fields fv } C (some oD) := ⟨hx, rfl, rfl, hoD⟩
  have S := F.store_object
  have subc : Looks (model pg w) hpz (isInstance (.ref x) (.type "object")) true :=
    J.type.andThen (looks_mroIn X (by
      unfold mroIn
      rw [hcd, Option.bind_some, if_neg (by rw [O.ne]; decide), O.ob]))
  refine codeAny_call_builtin S.slot.plain S.entry ?_
  refine @check_slot (model pg w) _ _ ⟨hpz, gs, dr, tk0, ost⟩ "object.__setattr__" "object" "__setattr__" (.ref x) [.str name tk, v] [] _ S.kind S.split subc (S.args (.ref x) (.str name tk) v) ?_
  have m1 : Looks (model pg w) hpz (mroOf (.ref C)) cd.mro := (looks_clsIn X hcd).andThen .now
  have m2 : Looks (model pg w) hpz (storeTaker? none) none := .now
  have m3 : Looks (model pg w) hpz (classData C) cd := looks_clsIn X hcd
  rw [osa_eq, refuse_eq]
  refine wpAny_bind (wpAny_bind (J.type.at (wpAny_bind (m1.at ?_))))
  rw [O.ps]
  refine wpAny_pure (wpAny_bind (J.type.at (wpAny_bind ((looks_findIn X ha).at (wpAny_bind (m2.at ?_))))))
  show wpAny _ _ (storeInOwnDict (.ref x) (.ref C) (.str name tk) name v false)
    _ _ _
  have hh := O.hd
  obtain ⟨nam, bss, mro, ns, qn, hdd, snl, sb, abst, coll, del⟩ := cd
  dsimp only at hh
  subst hh
  unfold storeInOwnDict
    ownDictForStores
  repeat (first
    | with_reducible refine OEX.store_in_old hns hw hz ?_
    | with_reducible refine wpAny_loadPart_at hx ?_
    | with_reducible refine m3.at ?_
    | wp_step)
  intro h' tk' hn' same
  exact hq h' tk' (fun b o hb ho => (same.2 b hb).trans ho) hn'
end
end XK
end
section
set_option Elab.async false
set_option linter.all false
set_option maxRecDepth 100000
set_option maxHeartbeats 4100000
namespace XK
open PySem PySem.W PySem.Calls PySem.HandSPX
open PyProof.Rows (envOfC)
/-! ### the text of an __init__ that keeps one field -/
def aOne (f : Str) (p1 p2 : Pos) : Arguments := { posonlyargs := [], args := [{ arg := "self", annotation := none, pos := p1 }, { arg := f, annotation := none, pos := p2 }], vararg := none, kwonlyargs := [], kw_defaults := [], kwarg := none, defaults := [] }
def bOne (f : Str) (q1 q2 q3 q4 : Pos) : List Stmt := [.Assign [.Attribute (.Name "self" q1) f q2] (.Name f q3) q4]
def sOne (f : Str) : Scope := { kind := .function, names := [(PySem.Str.ofString "self", .local), (f, .local)], isGenerator := false, isCoroutine := false, more := [] }
/-- what the written part says of an own exception class -/
structure XT (K : Frag) (C : Addr) : Prop where
  base : ∃ (B newId initId : String) (bmB : List Value), ExcBaseFacts B newId initId bmB ∧ excInitIn K C bmB newId = true
  opn : ∃ cd, clsIn K C = some cd ∧ Opn cd
  sa : findIn K (.ref C) "__setattr__" = some (some (.builtin "object.__setattr__"))
  ga : findIn K (.ref C) "__getattribute__" = some (some (.builtin "BaseException.__getattribute__"))
  gg : findIn K (.ref C) "__getattr__" = some none
  exC : subIn K (.ref C) (.type "BaseException") = some true
  kC : keepIn K (.ref C) = true
  hd : hasDictIn K C = true
  ac : findIn K (.ref C) "__class__" = some (some (.builtin "object.__class__"))
  gn : specialIn K (.builtin "object.__class__") "__get__" = some (some (.builtin "getset_descriptor.__get__"))
  tk : takesIn K (.builtin "object.__class__") = some true
  mo : mroIn K C (.type "object") = some true
/-- .. and of its __init__, which keeps the one field f -/
structure XI (K : Frag) (C : Addr) (f : Str) : Prop where
  noN : findIn K (.ref C) f = some none
  ne : f ≠ "self"
  fn : ∃ (fI : Addr) (qn : Str) (oc : Value) (od : Option Addr) (doc pm : Value) (an : Option Addr) (cdv ct : Value) (osl : Array (Option Value)) (p1 p2 q1 q2 q3 q4 : Pos),
    findIn K (.ref C) "__init__" = some (some (.ref fI)) ∧ typeIn K (.ref fI) = some (.type "function") ∧
    K.lookup fI = some ⟨oc, od, .func (fnOf "__init__" qn (aOne f p1 p2) (bOne f q1 q2 q3 q4) (sOne f) .none .none doc pm an cdv ct), osl⟩ ∧ codeIn K cdv qn = true ∧
    (∀ s x v, BindsTo s (fnOf "__init__" qn (aOne f p1 p2) (bOne f q1 q2 q3 q4) (sOne f) .none .none doc pm an cdv ct) ⟨[x, v], []⟩ [("self", x), (f, v)]) ∧
    (∀ s x v, BindsTo s (fnOf "__init__" qn (aOne f p1 p2) (bOne f q1 q2 q3 q4) (sOne f) .none .none doc pm an cdv ct) ⟨[x], [(f, v)]⟩ [("self", x), (f, v)])
theorem look_self (f : Str) : (sOne f).names.lookup ("self" : Str) = some NameKind.local := rfl
theorem look_f (f : Str) : (sOne f).names.lookup f = some NameKind.local := by
  show List.lookup f [(PySem.Str.ofString "self", NameKind.local), (f, NameKind.local)] = some .local
  by_cases h : f = PySem.Str.ofString "self"
  · rw [h]
    simp [List.lookup]
  · have e : (f == PySem.Str.ofString "self") = false := by simpa using h
    simp [List.lookup, e]
theorem load_local {M : Model} {s : Shared} {name : Str} {scope : Scope} {L a : Addr} {cd : Value} {m : Str → Option Value} {x : Str} {pos : Pos} {v : Value} {Q : Value → Shared → Prop} {A : Around} {E : Value → Shared → Prop}
    (hk : scope.kind = .function) (hl : scope.names.lookup x = some .local) (hd : (x == ("__debug__" : Str)) = false) (hn : s.heap.Ns L m) (hv : m x = some v) (h : Q v s) :
    wpAny M A (eval (.Name x pos) (envOfC name scope L a cd)) Q E s := wpAny_Name (wpAny_loadName_local hk hl hn hv h) hd
/-- a made exception: e, its own dict at d with the fields m -/
structure Made (h h' : Heap) (e C d : Addr) (m : Str → Option Value) : Prop where
  keep : ∀ b o, h.get? b = some o → h'.get? b = some o
  eb : h.objs.size ≤ e
  db : h.objs.size ≤ d
  ne : d ≠ e
  obj : ∃ t0 : Addr, h'.get? e = some ({ cls := .ref C, dict := some d, data := .fields #[.ref t0, .none, .none, .none, .bool false, .none] } : Obj)
  ns : h'.Ns1 d m
section
variable {prog : Program} {w : World} {A : Around} {E : Value → Shared → Prop} {R : Result → Shared → Prop} {s : Shared} {K : Frag} {C : Addr} {f : Str} {v : Value}
theorem made_one (T : XT K C) (I : XI K C f) (hdb : (f == ("__debug__" : Str)) = false) (X : K.In s.heap) (hlim : s.heap.NoLimit) (room : A.depth + 1 < recursionLimit) (us : List Value) (kw : List (Str × Value)) (hp : (us = [v] ∧ kw = []) ∨ (us = [] ∧ kw = [(f, v)]))
    (hq : ∀ h' tk e d, Made s.heap h' e C d (fun y => if y = f then some v else none) → R (.ok (.ret (.ref e))) { s with heap := h', toks := tk }) :
    codeAny (model prog w) A (.call (.ref C) ⟨us, kw⟩) R s := by
  obtain ⟨B, newId, initId, bmB, F, ini⟩ := T.base
  obtain ⟨cd, hcd, O⟩ := T.opn
  obtain ⟨fI, qn, oc, od, doc, pm, an, cdv, ct, osl, p1, p2, q1, q2, q3, q4, iC, tC, lf, co, b1, b2⟩ := I.fn
  obtain ⟨nm, N, q, bs, bm, hdct, sn, sub, ab, col, dd, k0, k1, k2, k3, k5, gC, hT⟩ := excInit_of X ini
  obtain ⟨hp0, g, dr, tk, os⟩ := s
  have ul : us.length ≤ sizeLine := by
    rcases hp with ⟨rfl, _⟩ | ⟨rfl, _⟩
    · show 1 ≤ sizeLine
      rw [sizeLine_eq]
      decide
    · exact Nat.zero_le _
  have bd : ∀ s x, BindsTo s (fnOf "__init__" qn (aOne f p1 p2) (bOne f q1 q2 q3 q4) (sOne f) .none .none doc pm an cdv ct) ⟨x :: us, kw⟩ [("self", x), (f, v)] := fun s x => by
    rcases hp with ⟨rfl, rfl⟩ | ⟨rfl, rfl⟩
    · exact b1 s x v
    · exact b2 s x v
  have k : ∀ b o, hp0.get? b = some o → ((hp0.push (kdv_tup us)).push (excO C hp0.objs.size)).get? b = some o := fun b o e => Heap.get?_push_of_some _ (Heap.get?_push_of_some _ e)
  have got : ((hp0.push (kdv_tup us)).push (excO C hp0.objs.size)).get? (hp0.objs.size + 1) = some (excO C hp0.objs.size) := by heap_get
  refine called F hT ul gC (looks_findIn X iC) (fun self => bind_fn X self tC) ?_
  have X1 := X.keeps k
  refine Att.call_fn (binds := [("self", .ref (hp0.objs.size + 1)), (f, v)]) (s := ⟨(hp0.push (kdv_tup us)).push (excO C hp0.objs.size), g, dr, tk, os⟩) X1 (hlim.keeps k) lf co ?_ (bd _ _) ?_ (fun s₁ IC => ?_) rfl rfl rfl
  · show A.depth + 1 < recursionLimit
    exact room
  · simp only [List.all_cons, List.all_nil, look_f f, Bool.and_true]
    rfl
  · obtain ⟨h₁, tk₁, rfl⟩ := IC.toInCall.same
    have k1 := IC.toInCall.keep
    have hn := IC.toInCall.ns
    have hx := k1 _ _ got
    have X2 : K.In h₁ := X1.keeps k1
    have e1 : (envOfC qn (sOne f) ((hp0.push (kdv_tup us)).push (excO C hp0.objs.size)).objs.size fI cdv).kindOf "self" = some .local := look_self f
    have e2 : (envOfC qn (sOne f) ((hp0.push (kdv_tup us)).push (excO C hp0.objs.size)).objs.size fI cdv).kindOf f = some .local := look_f f
    show wpAny _ _ (execs _ _) _ _ _
    refine wpAny_execs_cons (plainObj_wpAny_Assign_Attribute ?_)
    refine load_local (v := v) rfl (look_f f) hdb hn ?_ (load_local (v := .ref (hp0.objs.size + 1)) rfl (look_self f) (by decide) hn ?_ ?_)
    · simp only [bindL, e1, e2, if_true]
    · simp only [bindL, e1, e2, if_true]
      rw [if_neg (fun z => I.ne z.symm)]
    refine set_plain X2 (ox := excO C hp0.objs.size) (od := none) ⟨hx, rfl, rfl, trivial⟩ T.sa ?_
    refine first_field X2 hx hcd O I.noN fun h₃ tk₃ dx k₃ dn dne hx₃ hn₃ => ?_
    show wpAny _ _ (execs _ _) _ _ _
    have z0 : hp0.objs.size ≤ h₁.objs.size := Nat.le_of_lt (Nat.lt_of_succ_lt (show hp0.objs.size + 1 < h₁.objs.size from Heap.lt_size hx))
    refine wpAny_execs_nil ⟨rfl, hq h₃ tk₃ (hp0.objs.size + 1) dx ⟨fun b o e => ?_, Nat.le_succ _, Nat.le_trans z0 dn, dne, ⟨_, hx₃⟩, hn₃⟩⟩
    exact k₃ b o (Nat.ne_of_lt (Nat.lt_succ_of_lt (Heap.lt_size e))) (k1 _ _ (k _ _ e))
end
/-! ### two fields -/
def aTwo (f1 f2 : Str) (p1 p2 p3 : Pos) : Arguments := { posonlyargs := [], args := [{ arg := "self", annotation := none, pos := p1 }, { arg := f1, annotation := none, pos := p2 }, { arg := f2, annotation := none, pos := p3 }], vararg := none, kwonlyargs := [], kw_defaults := [], kwarg := none, defaults := [] }
def bTwo (f1 f2 : Str) (q1 q2 q3 q4 r1 r2 r3 r4 : Pos) : List Stmt := [.Assign [.Attribute (.Name "self" q1) f1 q2] (.Name f1 q3) q4, .Assign [.Attribute (.Name "self" r1) f2 r2] (.Name f2 r3) r4]
def sTwo (f1 f2 : Str) : Scope := { kind := .function, names := [(PySem.Str.ofString "self", .local), (f1, .local), (f2, .local)], isGenerator := false, isCoroutine := false, more := [] }
structure XJ (K : Frag) (C : Addr) (f1 f2 : Str) : Prop where
  no1 : findIn K (.ref C) f1 = some none
  no2 : findIn K (.ref C) f2 = some none
  ne1 : f1 ≠ "self"
  ne2 : f2 ≠ "self"
  ne : f1 ≠ f2
  fn : ∃ (fI : Addr) (qn : Str) (oc : Value) (od : Option Addr) (doc pm : Value) (an : Option Addr) (cdv ct : Value) (osl : Array (Option Value)) (p1 p2 p3 q1 q2 q3 q4 r1 r2 r3 r4 : Pos),
    findIn K (.ref C) "__init__" = some (some (.ref fI)) ∧ typeIn K (.ref fI) = some (.type "function") ∧
    K.lookup fI = some ⟨oc, od, .func (fnOf "__init__" qn (aTwo f1 f2 p1 p2 p3) (bTwo f1 f2 q1 q2 q3 q4 r1 r2 r3 r4) (sTwo f1 f2) .none .none doc pm an cdv ct), osl⟩ ∧ codeIn K cdv qn = true ∧
    (∀ s x u v, BindsTo s (fnOf "__init__" qn (aTwo f1 f2 p1 p2 p3) (bTwo f1 f2 q1 q2 q3 q4 r1 r2 r3 r4) (sTwo f1 f2) .none .none doc pm an cdv ct) ⟨[x, u, v], []⟩ [("self", x), (f1, u), (f2, v)]) ∧
    (∀ s x u v, BindsTo s (fnOf "__init__" qn (aTwo f1 f2 p1 p2 p3) (bTwo f1 f2 q1 q2 q3 q4 r1 r2 r3 r4) (sTwo f1 f2) .none .none doc pm an cdv ct) ⟨[x], [(f2, v), (f1, u)]⟩ [("self", x), (f1, u), (f2, v)])
theorem look2_self (f1 f2 : Str) : (sTwo f1 f2).names.lookup ("self" : Str) = some NameKind.local := rfl
theorem look2_1 (f1 f2 : Str) : (sTwo f1 f2).names.lookup f1 = some NameKind.local := by
  show List.lookup f1 [(PySem.Str.ofString "self", NameKind.local), (f1, NameKind.local), (f2, NameKind.local)] = some .local
  by_cases h : f1 = PySem.Str.ofString "self"
  · rw [h]
    simp [List.lookup]
  · have e : (f1 == PySem.Str.ofString "self") = false := by simpa using h
    simp [List.lookup, e]
theorem look2_2 (f1 f2 : Str) : (sTwo f1 f2).names.lookup f2 = some NameKind.local := by
  show List.lookup f2 [(PySem.Str.ofString "self", NameKind.local), (f1, NameKind.local), (f2, NameKind.local)] = some .local
  by_cases h : f2 = PySem.Str.ofString "self"
  · rw [h]
    simp [List.lookup]
  · have e : (f2 == PySem.Str.ofString "self") = false := by simpa using h
    by_cases h1 : f2 = f1
    · subst h1
      simp [List.lookup, e]
    · have e1 : (f2 == f1) = false := by simpa using h1
      simp [List.lookup, e, e1]
section
variable {prog : Program} {w : World} {A : Around} {E : Value → Shared → Prop} {R : Result → Shared → Prop} {s : Shared} {K : Frag} {C : Addr} {f1 f2 : Str} {u v : Value}
theorem made_two (T : XT K C) (I : XJ K C f1 f2) (hd1 : (f1 == ("__debug__" : Str)) = false) (hd2 : (f2 == ("__debug__" : Str)) = false) (X : K.In s.heap) (hlim : s.heap.NoLimit) (room : A.depth + 1 < recursionLimit) (us : List Value) (kw : List (Str × Value))
    (hp : (us = [u, v] ∧ kw = []) ∨ (us = [] ∧ kw = [(f2, v), (f1, u)]))
    (hq : ∀ h' tk e d, Made s.heap h' e C d (fun y => if y = f2 then some v else if y = f1 then some u else none) → R (.ok (.ret (.ref e))) { s with heap := h', toks := tk }) :
    codeAny (model prog w) A (.call (.ref C) ⟨us, kw⟩) R s := by
  obtain ⟨B, newId, initId, bmB, F, ini⟩ := T.base
  obtain ⟨cd, hcd, O⟩ := T.opn
  obtain ⟨fI, qn, oc, od, doc, pm, an, cdv, ct, osl, p1, p2, p3, q1, q2, q3, q4, r1, r2, r3, r4, iC, tC, lf, co, b1, b2⟩ := I.fn
  obtain ⟨nm, N, q, bs, bm, hdct, sn, sub, ab, col, dd, k0, k1, k2, k3, k5, gC, hT⟩ := excInit_of X ini
  obtain ⟨hp0, g, dr, tk, os⟩ := s
  have ul : us.length ≤ sizeLine := by
    rcases hp with ⟨rfl, _⟩ | ⟨rfl, _⟩
    · show 2 ≤ sizeLine
      rw [sizeLine_eq]
      decide
    · exact Nat.zero_le _
  have bd : ∀ s x, BindsTo s (fnOf "__init__" qn (aTwo f1 f2 p1 p2 p3) (bTwo f1 f2 q1 q2 q3 q4 r1 r2 r3 r4) (sTwo f1 f2) .none .none doc pm an cdv ct) ⟨x :: us, kw⟩ [("self", x), (f1, u), (f2, v)] := fun s x => by
    rcases hp with ⟨rfl, rfl⟩ | ⟨rfl, rfl⟩
    · exact b1 s x u v
    · exact b2 s x u v
  have k : ∀ b o, hp0.get? b = some o → ((hp0.push (kdv_tup us)).push (excO C hp0.objs.size)).get? b = some o := fun b o e => Heap.get?_push_of_some _ (Heap.get?_push_of_some _ e)
  have got : ((hp0.push (kdv_tup us)).push (excO C hp0.objs.size)).get? (hp0.objs.size + 1) = some (excO C hp0.objs.size) := by heap_get
  refine called F hT ul gC (looks_findIn X iC) (fun self => bind_fn X self tC) ?_
  have X1 := X.keeps k
  refine Att.call_fn (binds := [("self", .ref (hp0.objs.size + 1)), (f1, u), (f2, v)]) (s := ⟨(hp0.push (kdv_tup us)).push (excO C hp0.objs.size), g, dr, tk, os⟩) X1 (hlim.keeps k) lf co ?_ (bd _ _) ?_ (fun s₁ IC => ?_) rfl rfl rfl
  · show A.depth + 1 < recursionLimit
    exact room
  · simp only [List.all_cons, List.all_nil, look2_1 f1 f2, look2_2 f1 f2, Bool.and_true]
    rfl
  · obtain ⟨h₁, tk₁, rfl⟩ := IC.toInCall.same
    have k1 := IC.toInCall.keep
    have hn := IC.toInCall.ns
    have hx := k1 _ _ got
    have X2 : K.In h₁ := X1.keeps k1
    have e0 : (envOfC qn (sTwo f1 f2) ((hp0.push (kdv_tup us)).push (excO C hp0.objs.size)).objs.size fI cdv).kindOf "self" = some .local := look2_self f1 f2
    have e1 : (envOfC qn (sTwo f1 f2) ((hp0.push (kdv_tup us)).push (excO C hp0.objs.size)).objs.size fI cdv).kindOf f1 = some .local := look2_1 f1 f2
    have e2 : (envOfC qn (sTwo f1 f2) ((hp0.push (kdv_tup us)).push (excO C hp0.objs.size)).objs.size fI cdv).kindOf f2 = some .local := look2_2 f1 f2
    show wpAny _ _ (execs _ _) _ _ _
    refine wpAny_execs_cons (plainObj_wpAny_Assign_Attribute ?_)
    refine load_local (v := u) rfl (look2_1 f1 f2) hd1 hn ?_ (load_local (v := .ref (hp0.objs.size + 1)) rfl (look2_self f1 f2) (by decide) hn ?_ ?_)
    · simp only [bindL, e0, e1, e2, if_true]
      rw [if_neg I.ne]
    · simp only [bindL, e0, e1, e2, if_true]
      rw [if_neg (fun z => I.ne2 z.symm), if_neg (fun z => I.ne1 z.symm)]
    refine set_plain X2 (ox := excO C hp0.objs.size) (od := none) ⟨hx, rfl, rfl, trivial⟩ T.sa ?_
    refine first_field X2 hx hcd O I.no1 fun h₃ tk₃ dx k₃ dn dne hx₃ hn₃ => ?_
    have z1 : hp0.objs.size + 1 < h₁.objs.size := Heap.lt_size hx
    have z0 : hp0.objs.size ≤ h₁.objs.size := Nat.le_of_lt (Nat.lt_of_succ_lt z1)
    have nx : ∀ {b : Addr} {o : Obj}, hp0.get? b = some o → b ≠ hp0.objs.size + 1 := fun {b o} e => Nat.ne_of_lt (Nat.lt_succ_of_lt (Heap.lt_size e))
    have Lx : ((hp0.push (kdv_tup us)).push (excO C hp0.objs.size)).objs.size ≠ hp0.objs.size + 1 := by
      rw [Heap.size_push,
            Heap.size_push]
      exact Nat.succ_ne_self _
    have hn3 : h₃.Ns ((hp0.push (kdv_tup us)).push (excO C hp0.objs.size)).objs.size _ := Heap.Ns.at hn fun o e => k₃ _ o Lx e
    have X3 : K.In h₃ := fun b o e => k₃ b o (nx (X _ _ e)) (X2 b o e)
    show wpAny _ _ (execs _ _) _ _ _
    refine wpAny_execs_cons (plainObj_wpAny_Assign_Attribute ?_)
    refine load_local (v := v) rfl (look2_2 f1 f2) hd2 hn3 ?_ (load_local (v := .ref (hp0.objs.size + 1)) rfl (look2_self f1 f2) (by decide) hn3 ?_ ?_)
    · simp only [bindL, e0, e1, e2, if_true]
    · simp only [bindL, e0, e1, e2, if_true]
      rw [if_neg (fun z => I.ne2 z.symm), if_neg (fun z => I.ne1 z.symm)]
    have hw : Within (fun y => if y = f1 then some u else none) [f1] := fun y hy => by
      by_cases e : y = f1
      · rw [e]
        exact List.mem_cons_self ..
      · exact absurd (if_neg e) hy
    obtain ⟨oD, _, _, hoD, _, _⟩ := hn₃.count hw
    refine set_plain X3 (ox := { cls := .ref C, dict := some dx, data := .fields #[.ref hp0.objs.size, .none, .none, .none, .bool false, .none] }) (od := some oD) ⟨hx₃, rfl, rfl, hoD⟩ T.sa ?_
    refine next_field X3 hx₃ hn₃ hw (by show 1 ≤ 1000; decide) hcd O I.no2 fun h₄ tk₄ k₄ hn₄ => ?_
    show wpAny _ _ (execs _ _) _ _ _
    have nd : ∀ {b : Addr} {o : Obj}, hp0.get? b = some o → b ≠ dx := fun {b o} e => Nat.ne_of_lt (Nat.lt_of_lt_of_le (Nat.lt_of_lt_of_le (Heap.lt_size e) z0) dn)
    refine wpAny_execs_nil ⟨rfl, hq h₄ tk₄ (hp0.objs.size + 1) dx ⟨fun b o e => ?_, Nat.le_succ _, Nat.le_trans z0 dn, dne, ⟨_, k₄ _ _ (Ne.symm dne) hx₃⟩, hn₄⟩⟩
    exact k₄ b o (nd e) (k₃ b o (nx e) (k1 _ _ (k _ _ e)))
end
end XK
end
section
set_option Elab.async false
set_option linter.all false
set_option maxRecDepth 100000
set_option maxHeartbeats 4100000
namespace XK
open PySem PySem.Spec PyProof.Rows L2
section
variable {X : Cx} {pins : List (Addr × Obj)} {σ : L2.St} {H : Hp} {s : Shared} {C : Addr}
/-- a made exception is tracked, and its own dict -/
theorem tracked {h' : Heap} {e d : Addr} {m : Str → Option Value} {fs : List (Str × V)} (t' : Nat) (I : Inv X pins σ H s) (M : Made s.heap h' e C d m) (r : ∀ f, RelO (fs.lookup f) (m f)) :
    Inv X pins σ (upd (upd H d (.xd fs)) e (exo e C (some d))) { s with heap := h', toks := t' } := by
  have nd : H d = none := I.hok.fresh M.db
  have ne : H e = none := I.hok.fresh M.eb
  have ned : upd H d (.xd fs) e = none := by
    rw [upd_ne (Ne.symm M.ne)]
    exact ne
  have U1 : Un X.fs [] H (upd H d (.xd fs)) s.heap s.heap := Un.laid (fun _ _ q => q) M.db nd
  have U2 : Un X.fs [] (upd H d (.xd fs)) (upd (upd H d (.xd fs)) e (exo e C (some d))) s.heap h' := Un.laid M.keep M.eb ned
  obtain ⟨t0, ho⟩ := M.obj
  refine I.un (t' := t') (U1.trans U2) fun b o q => ?_
  by_cases hb : b = e
  · subst hb
    rw [upd_same] at q
    cases q
    exact exo_ok ho
  · rw [upd_ne hb] at q
    by_cases hd : b = d
    · subst hd
      rw [upd_same] at q
      cases q
      exact ⟨m, M.ns, r⟩
    · rw [upd_ne hd] at q
      refine (I.hok b o q).stay (fun c v _ z => M.keep c v z) (fun c z => ?_) fun c xs z => ?_
      · rw [upd_ne (ne_of_none z ne), upd_ne (ne_of_none z nd)]
        exact z
      · rw [upd_ne (ne_of_none z ne), upd_ne (ne_of_none z nd)]
        exact z
theorem rel_one {f : Str} {y : V} {u : Value} (r : RelV y u) (g : Str) : RelO ([(f, y)].lookup g) (if g = f then some u else none) := relO_put (fs := []) (mA := fun _ => none) r (fun _ => trivial) g
theorem rel_two {f1 f2 : Str} {y z : V} {u v : Value} (r : RelV y u) (r' : RelV z v) (g : Str) : RelO ([(f2, z), (f1, y)].lookup g) (if g = f2 then some v else if g = f1 then some u else none) :=
  relO_put (fs := [(f1, y)]) r' (rel_one r) g
/-- what follows a made exception -/
def Then1 (C : Addr) (f : Str) (v : V) (H : Hp) (Q : VK) : Prop := ∀ d e, H d = none → H e = none → d ≠ e → Q (.ref e) (upd (upd H d (.xd [(f, v)])) e (exo e C (some d)))
def Then2 (C : Addr) (f1 f2 : Str) (u v : V) (H : Hp) (Q : VK) : Prop := ∀ d e, H d = none → H e = none → d ≠ e → Q (.ref e) (upd (upd H d (.xd [(f2, v), (f1, u)])) e (exo e C (some d)))
def tEx1 (C : Addr) (f : Str) (ta : TA) : TE := fun σ H Q => ta σ H fun vs H1 => ∃ v, vs = [v] ∧ Then1 C f v H1 Q
def tEx2 (C : Addr) (f1 f2 : Str) (ta : TA) : TE := fun σ H Q => ta σ H fun vs H1 => ∃ u v, vs = [u, v] ∧ Then2 C f1 f2 u v H1 Q
def tEx2k (C : Addr) (f1 f2 : Str) (ta : TA) : TE := fun σ H Q => ta σ H fun vs H1 => ∃ v u, vs = [v, u] ∧ Then2 C f1 f2 u v H1 Q
end
section
variable {X : Cx} {x f f1 f2 : Str} {C : Addr} {k : Nat} {a b : Expr} {ta : TA} {te : TE} {p pos k1 k2 : Pos}
/-- x(a), an own exception class whose __init__ keeps one field -/
theorem pe_ex1 (T : XT X.K C) (J : XI X.K C f) (hr : Room k X.A) (gC : X.mg x = some (.ref C)) (hfd : (f == ("__debug__" : Str)) = false) (ha : PA X [a] ta) (hg : Gl X x := by rfl) (hdb : (x == ("__debug__" : Str)) = false := by decide)
    (he : starEach (a :: []) X.env = (false, eval a X.env) :: starEach [] X.env := by rfl) (hpl : (backTo pos (starEach [] X.env)).any (·.1) = false := by rfl) :
    PE X (.Call (.Name x p) [a] [] pos) (tEx1 C f ta) := by
  refine ⟨fun pins s σ H Q I h => ?_⟩
  refine wpAny_Call_Name_kw
        (ld_glob I hg gC ?_ hdb)
  refine PySem.W.callWith_K (h₀ := X.base) I.ok.mod.kin T.kC (thn (ha.run pos pins s σ H _ I h) fun us s1 hh => ?_) he hpl
  obtain ⟨vs, H1, I1, r1, v, ev, q1⟩ := hh
  subst ev
  refine ⟨I1.kIn, ?_⟩
  cases r1 with
  | cons rv rn =>
    rename_i v' us'
    cases rn
    show wpAny _ _ (call (.ref C) [v']) _ _ _
    refine wpAny_call (made_one (v := v') T J hfd I1.kIn I1.nolimit (by have := hr.dp; omega) [v'] [] (.inl ⟨rfl, rfl⟩) fun h' tk e d M => ?_)
    exact ⟨.ref e, _, tracked tk I1 M (rel_one rv), rfl, q1 d e (I1.hok.fresh M.db) (I1.hok.fresh M.eb) M.ne⟩
/-- x(f = a) -/
theorem pe_ex1k (T : XT X.K C) (J : XI X.K C f) (hr : Room k X.A) (gC : X.mg x = some (.ref C)) (hfd : (f == ("__debug__" : Str)) = false) (ha : PE X a te) (hg : Gl X x := by rfl) (hdb : (x == ("__debug__" : Str)) = false := by decide)
    (hpl : ((backTo pos (starEach [] X.env)).any (·.1) || (backToKw pos (keywordEach [⟨some f, a, k1⟩] X.env)).any (·.1.isNone)) = false := by rfl) :
    PE X (.Call (.Name x p) [] [⟨some f, a, k1⟩] pos) (tEx1 C f (tCons te tNil)) := by
  refine ⟨fun pins s σ H Q I h => ?_⟩
  refine wpAny_Call_Name_kw
        (ld_glob I hg gC ?_ hdb)
  refine PySem.W.callWith_KW0 (h₀ := X.base) I.ok.mod.kin T.kC rfl ?_ hpl
  refine thn ((pk_cons ha pk_nil).run pos pins s σ H _ I h) fun us s1 hh => ?_
  obtain ⟨vs, H1, I1, r1, v, ev, q1⟩ := hh
  subst ev
  refine ⟨I1.kIn, ?_⟩
  cases r1 with
  | cons rv rn =>
    rename_i v' us'
    cases rn
    show wpAny _ _ (call (.ref C) [] [(f, v')]) _ _ _
    refine wpAny_call (made_one (v := v') T J hfd I1.kIn I1.nolimit (by have := hr.dp; omega) [] [(f, v')] (.inr ⟨rfl, rfl⟩) fun h' tk e d M => ?_)
    exact ⟨.ref e, _, tracked tk I1 M (rel_one rv), rfl, q1 d e (I1.hok.fresh M.db) (I1.hok.fresh M.eb) M.ne⟩
/-- x(a, b) -/
theorem pe_ex2 (T : XT X.K C) (J : XJ X.K C f1 f2) (hr : Room k X.A) (gC : X.mg x = some (.ref C)) (h1 : (f1 == ("__debug__" : Str)) = false) (h2 : (f2 == ("__debug__" : Str)) = false) (ha : PA X [a, b] ta) (hg : Gl X x := by rfl) (hdb : (x == ("__debug__" : Str)) = false := by decide)
    (he : starEach (a :: [b]) X.env = (false, eval a X.env) :: starEach [b] X.env := by rfl) (hpl : (backTo pos (starEach [b] X.env)).any (·.1) = false := by rfl) :
    PE X (.Call (.Name x p) [a, b] [] pos) (tEx2 C f1 f2 ta) := by
  refine ⟨fun pins s σ H Q I h => ?_⟩
  refine wpAny_Call_Name_kw
        (ld_glob I hg gC ?_ hdb)
  refine PySem.W.callWith_K (h₀ := X.base) I.ok.mod.kin T.kC (thn (ha.run pos pins s σ H _ I h) fun us s1 hh => ?_) he hpl
  obtain ⟨vs, H1, I1, r1, u, v, ev, q1⟩ := hh
  subst ev
  refine ⟨I1.kIn, ?_⟩
  cases r1 with
  | @cons _ u' _ _ ru rn =>
    cases rn with
    | @cons _ v' _ _ rv rn =>
      cases rn
      show wpAny _ _ (call (.ref C) [u', v']) _ _ _
      refine wpAny_call (made_two (u := u') (v := v') T J h1 h2 I1.kIn I1.nolimit (by have := hr.dp; omega) [u', v'] [] (.inl ⟨rfl, rfl⟩) fun h' tk e d M => ?_)
      exact ⟨.ref e, _, tracked tk I1 M (rel_two ru rv), rfl, q1 d e (I1.hok.fresh M.db) (I1.hok.fresh M.eb) M.ne⟩
/-- x(f2 = b, f1 = a) -/
theorem pe_ex2k {te1 te2 : TE} (T : XT X.K C) (J : XJ X.K C f1 f2) (hr : Room k X.A) (gC : X.mg x = some (.ref C)) (h1 : (f1 == ("__debug__" : Str)) = false) (h2 : (f2 == ("__debug__" : Str)) = false) (hb : PE X b te2) (ha : PE X a te1) (hg : Gl X x := by rfl) (hdb : (x == ("__debug__" : Str)) = false := by decide)
    (hpl : ((backTo pos (starEach [] X.env)).any (·.1) || (backToKw pos (keywordEach [⟨some f2, b, k2⟩, ⟨some f1, a, k1⟩] X.env)).any (·.1.isNone)) = false := by rfl) :
    PE X (.Call (.Name x p) [] [⟨some f2, b, k2⟩, ⟨some f1, a, k1⟩] pos) (tEx2k C f1 f2 (tCons te2 (tCons te1 tNil))) := by
  refine ⟨fun pins s σ H Q I h => ?_⟩
  refine wpAny_Call_Name_kw
        (ld_glob I hg gC ?_ hdb)
  refine PySem.W.callWith_KW0 (h₀ := X.base) I.ok.mod.kin T.kC rfl ?_ hpl
  refine thn ((pk_cons hb (pk_cons ha pk_nil)).run pos pins s σ H _ I h) fun us s1 hh => ?_
  obtain ⟨vs, H1, I1, r1, v, u, ev, q1⟩ := hh
  subst ev
  refine ⟨I1.kIn, ?_⟩
  cases r1 with
  | @cons _ v' _ _ rv rn =>
    cases rn with
    | @cons _ u' _ _ ru rn =>
      cases rn
      show wpAny _ _ (call (.ref C) [] [(f2, v'), (f1, u')]) _ _ _
      refine wpAny_call (made_two (u := u') (v := v') T J h1 h2 I1.kIn I1.nolimit (by have := hr.dp; omega) [] [(f2, v'), (f1, u')] (.inr ⟨rfl, rfl⟩) fun h' tk e d M => ?_)
      exact ⟨.ref e, _, tracked tk I1 M (rel_two ru rv), rfl, q1 d e (I1.hok.fresh M.db) (I1.hok.fresh M.eb) M.ne⟩
/-- x(), an own exception class without __init__ -/
def tEx0 (C : Addr) : TE := fun σ H Q => ∀ e, H e = none → Q (.ref e) (upd H e (exo e C none))
theorem pe_ex0 {B newId initId : String} {bmB : List Value} (F : ExcBaseFacts B newId initId bmB) (q : PySem.W.excIn X.K C bmB newId = true) (gC : X.mg x = some (.ref C)) (kC : PySem.W.keepIn X.K (.ref C) = true) (hg : Gl X x := by rfl) (hdb : (x == ("__debug__" : Str)) = false := by decide) :
    PE X (.Call (.Name x p) [] [] pos) (tEx0 C) := by
  refine ⟨fun pins s σ H Q I h => ?_⟩
  refine wpAny_Call_Name_kw
        (ld_glob I hg gC ?_ hdb)
  refine PySem.W.callWith_K0 I.kIn kC ?_
  show wpAny _ _ (call (.ref C) []) _ _ _
  obtain ⟨bm, N, nm, qn, bs, hdct, sn, sub, ab, col, dd, k0, k1, k2, k3, k5, mN, hC, hN, hni, T⟩ := exc_obj I.kIn q
  obtain ⟨hp, g, dr, tk, os⟩ := s
  refine wpAny_call_exc_subT F T hC hN hni (fun h' a hm => ?_) (Nat.zero_le _)
  have hn : H a = none := I.hok.gone hm.new
  obtain ⟨t, ht, _,
        _⟩ := hm.there
  exact ⟨.ref a, upd H a (exo a C none), I.laidN hm.keeps hm.new hn (exo_ok (t1 := t) ht), rfl, h a hn⟩
/-- e.f, e an exception that is told, f one of its fields -/
def tGetX (K : PySem.W.Frag) (f : Str) (te : TE) : TE := fun σ H Q => te σ H fun y H1 => ∃ (e C d : Addr) (fs : List (Str × V)) (v : V), y = .ref e ∧ XT K C ∧ PySem.W.findIn K (.ref C) f = some none ∧ H1 e = some (exo e C (some d)) ∧ H1 d = some (.xd fs) ∧ fs.lookup f = some v ∧ Q v H1
theorem pe_getX {te : TE} (he : PE X a te) (hb : attributeBase a f X.env (eval a X.env) = eval a X.env := by rfl) : PE X (.Attribute a f pos) (tGetX X.K f te) := by
  refine ⟨fun pins s σ H Q I h => ?_⟩
  refine attr_of hb (thn (he.run pins s σ H _ I h) fun u s1 hh => ?_)
  obtain ⟨y, H1, I1, rx, e, C, d, fs, v, ey, T, no, ea, ed, l, q⟩ := hh
  subst ey
  obtain rfl : u = Value.ref e := rx
  obtain ⟨t0, ho⟩ := exo_at I1.hok ea
  obtain ⟨mA, hns, hrel⟩ := (show ObjOk X.prog X.w H1 s1.heap d (.xd fs) from I1.hok d _ ed)
  obtain ⟨od, hod, hl⟩ := lookIn_ns hns
  obtain ⟨w, hw, rw'⟩ := RelO.some_of (v := v) (o := mA f) (by rw [← l]; exact hrel f)
  have J : PySem.W.InstAt s1.heap e _ C (some od) := ⟨ho, rfl, rfl, hod⟩
  exact HandSPX.exc_get I1.kIn J T.ga T.gg T.exC (PySem.W.findObj_own T.hd no rfl (by rw [hl, hw])) (handed_of rw') ⟨v, H1, I1.tok _, rw', q⟩
/-- isinstance(e, c), e an exception that is told -/
def rIsX (K : PySem.W.Frag) : List V → Hp → VK → Prop := fun xs H Q => ∃ (e C : Addr) (d : Option Addr) (c : V) (u : Value) (r : Bool), xs = [.ref e, c] ∧ ClsV c u ∧ XT K C ∧ H e = some (exo e C d) ∧ (∀ dd, d = some dd → ∃ fs, H dd = some (.xd fs)) ∧ PySem.W.kitOne K (.ref C) u = some r ∧ Q (.bl r) H
theorem call_isX : CallR X (.builtin "isinstance") (rIsX X.K) := by
  intro pins s σ
        H xs us Q I r h
  obtain ⟨e, C, d, c, u, z, rfl, k, T, ea, hd, ek, q⟩ := h
  obtain ⟨u1, u2, rfl,
        r1, r2⟩ := vals2 r
  have e2 := k.eq r2
  subst e2
  cases (show u1 = Value.ref e from r1)
  obtain ⟨t0, ho⟩ := exo_at I.hok ea
  have J : ∃ od, PySem.W.InstAt s.heap e ({ cls := .ref C, dict := d, data := .fields #[.ref t0, .none, .none, .none, .bool false, .none] } : Obj) C od := by
    cases d with
    | none => exact ⟨none, ho, rfl, rfl, trivial⟩
    | some dd =>
      obtain ⟨fs, hf⟩ := hd dd rfl
      obtain ⟨mA, hns, _⟩ := (show ObjOk X.prog X.w H s.heap dd (.xd fs) from I.hok dd _ hf)
      obtain ⟨od, hod, _⟩ := lookIn_ns hns
      exact ⟨some od, ho, rfl, rfl, hod⟩
  obtain ⟨od, J⟩ := J
  have hc : (PySem.W.clsIn
        X.K C).isSome = true := by
    obtain ⟨cd, h1, _⟩ := T.opn
    rw [h1]
    rfl
  exact PySem.W.kia_one (PySem.W.kitx_exc hc T.ga T.gg T.exC T.ac T.gn T.tk T.mo) I.kIn J ek (fun z => nomatch z) fun tk => ⟨.bl z, H, I.tok tk, rfl, q⟩
end
end XK
end
section
set_option Elab.async false
set_option linter.all false
set_option maxRecDepth 100000
set_option maxHeartbeats 4100000
namespace XK
open PySem PySem.Spec PyProof.Rows L2
/-! ### repr of data -/
/-- what v is as data, dicts with keys of text or int at the outside as well -/
def flatD : PyData → Bool
  | .none => true
  | .bool _ => true
  | .int _ => true
  | .str _ => true
  | _ => false
theorem flat_reads {h : Heap} {u : Value} {d : PyData} {as : List Addr} (r : Reads h u d as) (f : flatD d = true) : as = [] := by
  cases r <;> first | rfl | cases f
theorem flats_read {h : Heap} : ∀ {us : List Value} {ds : List PyData} {as : List Addr}, ReadsAll h us ds as → ds.all flatD = true → as = []
  | _, _, _, .nil, _ => rfl
  | _, _, _, .cons r t, f => by
    rw [List.all_cons,
          Bool.and_eq_true] at f
    rw [flat_reads r f.1, flats_read t f.2]
    rfl
inductive DX (K : PySem.W.Frag) (H : Hp) : V → PyData → Prop
  | dp {v : V} {d : PyData} : Dp K H v d → DX K H v d
  | dc {a : Addr} {kvs : List (Key × V)} {ks vs : List PyData} : H a = some (.dK kvs) → DpAll K H (kvs.map fun p => kV p.1) ks → DpAll K H (kvs.map (·.2)) vs → ks.all flatD = true → vs.all flatD = true → DX K H (.ref a) (.dict (ks.zip vs))
inductive DXAll (K : PySem.W.Frag) (H : Hp) : List V → List PyData → Prop
  | nil : DXAll K H [] []
  | cons {v : V} {vs : List V} {d : PyData} {ds : List PyData} : DX K H v d → DXAll K H vs ds → DXAll K H (v :: vs) (d :: ds)
mutual
theorem noD {K : PySem.W.Frag} {H : Hp} : ∀ (d : PyData) (v : V), Dp K H v d → d.hasDict = false
  | .none, _, _ => by simp [PyData.hasDict]
  | .bool _, _, _ => by simp [PyData.hasDict]
  | .int _, _, _ => by simp [PyData.hasDict]
  | .str _, _, _ => by simp [PyData.hasDict]
  | .list ds, _, h => by
    cases h with
    | lst _ ha =>
      unfold PyData.hasDict
      exact noDs ds _ ha
  | .tuple ds, _, h => by
    cases h with
    | tup _ ha =>
      unfold PyData.hasDict
      exact noDs ds _ ha
  | .dict _, _, h => by cases h
theorem noDs {K : PySem.W.Frag} {H : Hp} : ∀ (ds : List PyData) (vs : List V), DpAll K H vs ds → PyData.hasDictAll ds = false
  | [], _, _ => by simp [PyData.hasDictAll]
  | d :: ds, _, h => by
    cases h with
    | cons a b =>
      unfold PyData.hasDictAll
      rw [noD d _ a, noDs ds _ b]
      rfl
end
theorem dpAll_length {K : PySem.W.Frag} {H : Hp} : ∀ {vs : List V} {ds : List PyData}, DpAll K H vs ds → vs.length = ds.length
  | _, _, .nil => rfl
  | _, _, .cons _ h => congrArg Nat.succ (dpAll_length h)
section
variable {X : Cx} {pins : List (Addr ×
      Obj)} {σ : L2.St} {H : Hp} {s : Shared}
theorem pairs_vals {P : Program} {w : World} : ∀ {kvs : List (Key × V)} {vs : List (Key × Value)} {es : List DictEntry}, KV kvs vs → Pairs (mixKind P w) es vs →
    Vals (kvs.map fun p => kV p.1) (es.map (·.key)) ∧ Vals (kvs.map (·.2)) (es.map (·.val))
  | _, _, _, .nil, .nil => ⟨.nil, .nil⟩
  | _, _, _, .cons r t, .cons hk hv hp => by
    obtain ⟨a, b⟩ := pairs_vals t hp
    obtain ⟨r1, r2⟩ := r
    refine ⟨.cons ?_ a, .cons ?_ b⟩
    · show RelV (kV _) _
      rw [r1]
      rcases keyIs_shape (show keyIs _ _ = true from hk) with ⟨i, tk, e1, e2⟩ | ⟨x, tk, e1, e2⟩
      · rw [e1]
        show RelV _ (DictEntry.key _)
        rw [e2]
        exact ⟨tk, rfl⟩
      · rw [e1]
        show RelV _ (DictEntry.key _)
        rw [e2]
        exact ⟨tk, rfl⟩
    · show RelV _ (DictEntry.val _)
      rw [hv]
      exact r2
theorem zip_fst : ∀ {ks vs : List PyData}, ks.length = vs.length → (ks.zip vs).map (·.1) = ks
  | [], [], _ => rfl
  | k :: ks, v :: vs, h => by
    rw [List.zip_cons_cons, List.map_cons, zip_fst (Nat.succ.inj h)]
theorem zip_snd : ∀ {ks vs : List PyData}, ks.length = vs.length → (ks.zip vs).map (·.2) = vs
  | [], [], _ => rfl
  | k :: ks, v :: vs, h => by
    rw [List.zip_cons_cons, List.map_cons, zip_snd (Nat.succ.inj h)]
/-- read off the heap; no address but lists' is met that may be the modules' dict -/
theorem DX.reads (I : Inv X pins σ H s) {v : V} {d : PyData} {u : Value} (h : DX X.K H v d) (r : RelV v u) : ∃ as, Reads s.heap u d as ∧ (d.hasDict = true → sysModules ∉ as) := by
  cases h with
  | dp h =>
    obtain ⟨as, q⟩ := Dp.reads I _ _ _ h r
    exact ⟨as, q, fun z => by rw [noD _ _ h] at z; cases z⟩
  | @dc a kvs ks vs ha hk hv fk fv =>
    cases (show u = Value.ref a from r)
    obtain ⟨_, hsys, us, rel, o, es, ep, ho, hx, hd, _, hp, _⟩ := (show ObjOk X.prog X.w H s.heap a (.dK kvs) from I.hok a _ ha)
    obtain ⟨rk, rv⟩ := pairs_vals rel hp
    obtain ⟨as, q1⟩ := Dp.readsAll I ks _ _ hk rk
    obtain ⟨bs, q2⟩ := Dp.readsAll I vs _ _ hv rv
    have hl : ks.length = vs.length := by
      rw [← dpAll_length hk, ← dpAll_length hv, List.length_map, List.length_map]
    refine ⟨a :: as ++ bs, Reads.dict ho hx.1 hd (by rw [zip_fst hl]; exact q1) (by rw [zip_snd hl]; exact q2), fun _ hm => ?_⟩
    rw [flats_read q1 fk, flats_read q2 fv] at hm
    have e : sysModules = a := by simpa using hm
    rw [e] at hsys
    simp at hsys
theorem DXAll.reads {b : Bool} (I : Inv X pins σ H s) : ∀ {vs : List V} {ds : List PyData} {us : List Value}, DXAll X.K H vs ds → (∀ d ∈ ds, d.hasDict = b) → Vals vs us → ∃ as, ReadsAll s.heap us ds as ∧ (b = true → sysModules ∉ as)
  | _, _, _, .nil, _, .nil => ⟨[], .nil, fun _ h => by cases h⟩
  | _, _, _, .cons a r, e, .cons q t => by
    obtain ⟨as, h1, n1⟩ := a.reads I q
    obtain ⟨bs, h2, n2⟩ := DXAll.reads I r (fun d hd => e d (List.mem_cons_of_mem _ hd)) t
    refine ⟨as ++ bs, .cons h1 h2, fun hb hm => ?_⟩
    rcases List.mem_append.mp hm with z | z
    · exact n1 ((e _ (List.mem_cons_self ..)).trans hb) z
    · exact n2 hb z
theorem dictAll_of {b : Bool} : ∀ {ds : List PyData}, (∀ d ∈ ds, d.hasDict = b) → PyData.hasDictAll ds = true → b = true
  | [], _, h => by
    unfold PyData.hasDictAll at h
    cases h
  | d :: ds, e, h => by
    unfold PyData.hasDictAll at h
    rw [Bool.or_eq_true] at h
    rcases h with h | h
    · rw [e d (List.mem_cons_self ..)] at h
      exact h
    · exact dictAll_of (fun x hx => e x (List.mem_cons_of_mem _ hx)) h
end
/-- the answer's size and depth are small -/
structure Shows (d : PyData) : Prop where
  sh : d.showable = true
  sz : d.shown.length ≤ sizeLine
  dp : d.depth ≤ 60
def rRepr (K : PySem.W.Frag) : List V → Hp → VK → Prop := fun xs H Q => ∃ v d, xs = [v] ∧ DX K H v d ∧ Shows d ∧ Q (.str d.shown) H
section
variable {X : Cx}
theorem call_repr (hg : X.A.guards = some []) (hu : X.A.units + 64 < cLine) : CallR X (.builtin "repr") (rRepr X.K) := by
  intro pins s σ
        H xs us Q I r h
  obtain ⟨v, d, rfl, hd, S, q⟩ := h
  cases r with
  | @cons _ u _ _ rv rn =>
    cases rn
    obtain ⟨as, hr, hs⟩ := hd.reads I rv
    have fin : ∀ h' t k, (∀ b o, s.heap.get? b = some o → h'.get? b = some o) → EP X pins σ Q (.str d.shown t) { s with heap := h', toks := k } := fun h' t k kk => ⟨.str d.shown, H, I.kept kk, ⟨_, rfl⟩, q⟩
    cases hr with
    | none => exact PySem.P.repr_of_none (by rw [PyData.shown_none] at fin; exact fin s.heap s.toks _ fun _ _ z => z)
    | bool b => exact PySem.P.repr_of_bool (by rw [PyData.shown_bool] at fin; exact fin s.heap s.toks _ fun _ _ z => z)
    | int i t =>
      have hi : i.natAbs.log2 < 1920 := by
        have z := S.sh
        unfold PyData.showable at z
        exact of_decide_eq_true z
      exact PySem.P.repr_of_int hi (by rw [PyData.shown_int] at fin; exact fin s.heap s.toks _ fun _ _ z => z)
    | str x t =>
      have z := S.sz
      rw [PyData.shown_str] at z fin
      exact PySem.P.repr_of_str (fin s.heap s.toks _ fun _ _ z => z) z
    | list h1 h2 h3 h4 => exact repr_of_reads' (.list h1 h2 h3 h4) S.sh hs hg (by have := S.dp; omega) (fun _ _ z => z) (fun h' t k kk => fin h' t k kk) S.sz
    | tuple h1 h2 h3 h4 => exact repr_of_reads' (.tuple h1 h2 h3 h4) S.sh hs hg (by have := S.dp; omega) (fun _ _ z => z) (fun h' t k kk => fin h' t k kk) S.sz
    | dict h1 h2 h3 h4 h5 => exact repr_of_reads' (.dict h1 h2 h3 h4 h5) S.sh hs hg (by have := S.dp; omega) (fun _ _ z => z) (fun h' t k kk => fin h' t k kk) S.sz
/-- repr of a list that was laid in the call: not the modules' dict -/
def rReprL (K : PySem.W.Frag) : List V → Hp → VK → Prop := fun xs H Q => ∃ (p : Addr) (vs : List V) (ds : List PyData) (b : Bool), xs = [.ref p] ∧ H p = some (.lst vs) ∧ p ≠ sysModules ∧ DXAll K H vs ds ∧ (∀ d ∈ ds, d.hasDict = b) ∧ Shows (.list ds) ∧ Q (.str (PyData.list ds).shown) H
theorem call_reprL (hg : X.A.guards = some []) (hu : X.A.units + 64 < cLine) : CallR X (.builtin "repr") (rReprL X.K) := by
  intro pins s σ
        H xs us Q I r h
  obtain ⟨p, vs, ds, b, rfl, hp, np, hd, hb, S, q⟩ := h
  cases r with
  | @cons _ u _ _ rv rn =>
    cases rn
    cases (show u = Value.ref p from rv)
    obtain ⟨_, its, n, rvs, ho⟩ := (show ObjOk X.prog X.w H s.heap p (.lst vs) from I.hok p _ hp)
    obtain ⟨as, hr, hs⟩ := hd.reads I hb rvs
    refine repr_of_reads' (Reads.list ho rfl rfl hr) S.sh (fun z => ?_) hg (by have := S.dp; omega) (fun _ _ z => z) (fun h' t k kk => ⟨.str (PyData.list ds).shown, H, I.kept kk, ⟨_, rfl⟩, q⟩) S.sz
    unfold PyData.hasDict at z
    intro hm
    rcases List.mem_cons.mp
          hm with e | e
    · exact np e.symm
    · exact hs (dictAll_of hb z) e
/-- a list display, and its address -/
def tLstS (t : TA) : TE := fun σ H Q => t σ H fun xs H1 => xs.length ≤ sizeLine ∧ ∀ p, H1 p = none → p ≠ sysModules → Q (.ref p) (upd H1 p (.lst xs))
theorem pe_lstS {es : List Expr} {t : TA} {pos : Pos} (h : PA X es t) : PE X (.List es pos) (tLstS t) := by
  refine ⟨fun pins s
        σ H Q I hq => ?_⟩
  refine wpAny_List_spliced (thn (h.run pos pins s σ H _ I hq) fun us s1 hh => ?_)
  obtain ⟨xs, H1, I1, r, z, q⟩ := hh
  refine ⟨by rw [← r.length]; exact z, ?_⟩
  have free : H1 s1.heap.objs.size = none := I1.hok.fresh (Nat.le_refl _)
  have big := Inv.big I1
  refine ⟨.ref s1.heap.objs.size, upd H1 s1.heap.objs.size (.lst xs), I1.laid (t' := s1.toks) (fun b u e => Heap.get?_push_of_some _ e) (Nat.le_refl _) ?_, rfl, q _ free (Ne.symm (Nat.ne_of_lt big))⟩
  exact ⟨z, us, 0, r,
        Heap.get?_push_size _ rfl⟩
/-- xs.count(b), truth values -/
def eqb (k : Bool) (v : Value) : Bool := match v with
  | .bool n => n == k
  | _ => false
theorem eqb_gives {k : Bool} {A : Around} {s : Shared} : ∀ {us : List Value} {bs : List Bool}, Vals (bs.map V.bl) us → ∀ y ∈ us, SeqAt.EqAt A s y (.bool k) (eqb k y)
  | _, [], .nil => fun y hy => by cases hy
  | _, b :: bs, .cons r h => fun y hy => by
    rcases List.mem_cons.mp
          hy with e | e
    · rw [e, show _ = Value.bool b from r]
      exact SeqAt.EqAt.bool_bool b k
    · exact eqb_gives h y e
theorem eqb_count {k : Bool} : ∀ {us : List Value} {bs : List Bool}, Vals (bs.map V.bl) us → us.countP (eqb k) = bs.count k
  | _, [], .nil => rfl
  | _, b :: bs, .cons r h => by
    rw [List.countP_cons, List.count_cons, eqb_count (k := k) h, show _ = Value.bool b from r]
    rfl
def rCntB (K : PySem.W.Frag) : V → List V → Hp → VK → Prop := fun x xs H Q => ∃ (p : Addr) (bs : List Bool) (k : Bool), x = .ref p ∧ xs = [.bl k] ∧ SqL K H p (bs.map V.bl) ∧ Q (.int (bs.count k : Nat)) H
theorem mt_count_bool : MtR X "list.count" (rCntB X.K) := by
  intro pins s σ H x
        xs v us Q I rx rxs h
  obtain ⟨p, bs, k, rfl, rfl, hs, q⟩ := h
  cases rx
  obtain ⟨u, rfl,
        ru⟩ := rxs.one
  cases (show u = Value.bool k from ru)
  obtain ⟨its, rv, ⟨⟨cls, dd, data, sl⟩,
        n, ho, hc, hdn, hd⟩, hlen⟩ := I.list hs
  simp only at hc hd
  subst hc hd
  refine call_meets PySem.F.slot_list_count ⟨_, ho, rfl⟩ PySem.F.entry_list_count (PySem.F.args_list_count_2 _ _) (SeqAt.list_countAt p its.toArray n dd sl (.bool k) (eqb k))
    ⟨ho, fun y hy => eqb_gives rv y (by simpa using hy), ?_⟩
  have ec : its.toArray.toList.countP (eqb k) = bs.count k := eqb_count rv
  refine ⟨.int (bs.count k : Nat), H, I.tok _, ⟨s.toks, ?_⟩, q⟩
  show Value.int ((its.toArray.toList.countP (eqb k) : Nat) : Int) s.toks = Value.int ((bs.count k : Nat) : Int) s.toks
  rw [ec]
/-- a short text, many times -/
theorem op_mul_str : OpR X (binaryOp .Mult) (fun x y H Q => ∃ (z : Str) (i : Int), x = .str z ∧ y = .int i ∧ z.length ≤ 16 ∧ 0 ≤ i ∧ i ≤ 1000 ∧ Q (.str (Txt.mul z i)) H) := by
  intro pins s σ H x
        y v u Q I rx ry h
  obtain ⟨z, i, rfl, rfl, hz, h0, h1, q⟩ := h
  obtain ⟨t, rfl⟩ := rx
  obtain ⟨t', rfl⟩ := ry
  refine PySem.W.KXi.mul rfl hz (by omega) (by omega) fun tk k _ _ => ?_
  exact ⟨.str (Txt.mul z i), H, I.tok _, ⟨_, rfl⟩, q⟩
end
end XK
end
section
set_option Elab.async false
set_option linter.all false
set_option maxRecDepth 100000
set_option maxHeartbeats 4100000
namespace XK
open PySem PySem.Spec PyProof.Rows L2
/-! ### a law's own def: it is called where no repr is under way -/
section
variable {P : Program} {w : World} {K : PySem.W.Frag} {mg : Str → Option Value} {base : Heap} {CX : CXT} {k : Nat} {f : Addr} {fd : FuncData} {N ps : List Str} {sp : Sp}
/-- a def's promise where the claim's caller calls it -/
structure AtCaller (P : Program) (w : World) (K : PySem.W.Frag) (mg : Str → Option Value) (base : Heap) (CX : CXT) (k : Nat) (f : Addr) (fd : FuncData) (ps : List Str) (sp : Sp) : Prop where
  go : ∀ (outer : List Env) (s : Shared) (H : Hp) (args : Args) (us : List Value) (vs : List V) (Q : VK) (E : XK), Room k callerA → Env0 P w K mg base callerA outer s H → BindsTo s fd args (ps.zip us) → Vals vs us → sp vs H Q E →
    codeAny (model P w) callerA (.call (.ref f) args) (CR CX outer P w H s Q E) s
theorem atCaller {x qual : Str} {st : Stmt} (F : Fun K x qual st f fd) (S : FnScope N ps (defScope st)) (len : ∀ vs H Q E, sp vs H Q E → vs.length = ps.length)
    (body : ∀ (cdv : Value) (outer : List Env) (s : Shared) (H : Hp) (vs : List V) (Q : VK) (E : XK), Room k (callerA.deeper (envOfC qual (defScope st) s.heap.objs.size f cdv)) → sp vs H Q E →
      ∃ t, PSs (cxOf CX P w K mg base N qual (defScope st) f cdv callerA outer s H E).nox (defBody st) t ∧ t { nx := fun _ H' => Q .non H', rt := Q } (start N vs) H) :
    AtCaller P w K mg base CX (k + 1) f fd ps sp := by
  obtain ⟨oc, od, kV, doc, pm, an,
        cdv, ct, osl, rfl, lk, hcd⟩ := F.ex
  constructor
  intro outer s H args us vs Q E room env bind rel want
  have count := len _ _ _ _ want
  have inn : K.In s.heap := env.mod.kin.keeps fun b o e => (env.bs b o e).1
  have lim : s.heap.NoLimit := env.mod.nolimit.keeps fun b o e => (env.bs b o e).1
  have kinds : ∀ y ∈ ps.zip us, (defScope st).names.lookup y.1 = some .local ∨ ((defScope st).names.lookup y.1 = some .cell ∧ ((cellsFrom (s.heap.objs.size + 1) (defScope st).names []).lookup y.1).isSome = true) := by
    rintro ⟨n, v⟩ hy
    cases S.par n (List.of_mem_zip hy).1 with
    | inl q => exact .inl q
    | inr q => exact .inr ⟨q, PySem.W.cellsFrom_some _ _ _ (.inl q)⟩
  refine codeAny_call_function room.depth (inn _ _ lk) rfl S.co S.gen rfl (PySem.W.codeRec_of inn hcd) (bind _ _ _ _ ?_)
  refine wpAny_newFunctionEnv_cells S.kind kinds fun en hen s1 entered => ?_
  subst hen
  refine ⟨lim.keeps entered.toInCall.keep, codeAny_func ?_⟩
  obtain ⟨t, der, rd⟩ := body cdv outer s H vs Q E (room.deeper _) want
  have I0 : Inv (cxOf CX P w K mg base N qual (defScope st) f cdv callerA outer s H E) [] (start N vs) H s1 := inv_start S room.hd env count rel entered
  refine wpAny_mono (der.nox.run [] s1 (start N vs) H _ I0 rd) (fun flow s' res => ?_) fun _ _ res => res
  cases flow with
  | ret u =>
    obtain ⟨v, σ', H', J, rv, q⟩ := res
    exact ⟨v, H', J.os, J.bare, J.base, J.hok, rv, q⟩
  | next =>
    obtain ⟨σ', H', J, q⟩ := res
    exact ⟨V.non, H', J.os, J.bare, J.base, J.hok, rfl, q⟩
  | brk =>
    obtain ⟨_, _, _, no⟩ := res
    exact no.elim
  | cont =>
    obtain ⟨_, _, _, no⟩ := res
    exact no.elim
end
/-- the law's call: nothing but the script may be tracked at its entry -/
theorem caller_runs {P : Program} {w : World} {K : PySem.W.Frag} {mg mb : Str → Option Value} {k : Nat} {fa a : Addr} {fd : FuncData} {x : Str} {sp : Sp} {s₁ : Shared} {vs : List Value} {ns : List Int}
    (inn : K.In s₁.heap) (glob : s₁.heap.Ns mainGlobals mg) (bns : s₁.heap.Ns builtinsNs mb) (boot : ∀ x : Str, x ≠ "__name__" → mb x = bootBuiltins x) (lim : s₁.heap.NoLimit) (gens : s₁.gens = #[])
    (obj : s₁.heap.get? a = some { cls := .type "list", data := .seq vs.toArray }) (inz : IntsAre vs ns) (short : ns.length ≤ sizeLine) (room : Room k callerA)
    (F : ∀ base : Heap, K.In base → base.Ns mainGlobals mg → AtCaller P w K mg base CX0 k fa fd [x] sp) (bind : ∀ (s : Shared) (u : Value), BindsTo s fd ⟨[u], []⟩ [(x, u)])
    (want : ∀ H : Hp, SqL K H a (ns.map V.int) → sp [.ref a] H (fun v _ => v = .bl true) fun _ _ _ => False) :
    codeAny (model P w) callerA (.call (.ref fa) ⟨[.ref a], []⟩) (fun r s' => r = .ok
          (.ret (.bool true)) ∧ OldK s₁.heap s'.heap ∧ s'.os = s₁.os ∧ AllBare s'.gens) s₁ := by
  have vals := vals_ints inz
  have many := inz.length
  have main : ∀ H : Hp, (∀ b, H b = none ∨ ∃ ob xs, H b = some (.frz ob xs)) → SqL K H a (ns.map V.int) → HOk P w H s₁.heap → (∀ b, H b ≠ none → b = a ∧ K.lookup b = none) →
      codeAny (model P w) callerA (.call (.ref fa) ⟨[.ref a], []⟩) (fun r s' => r = .ok
            (.ret (.bool true)) ∧ OldK s₁.heap s'.heap ∧ s'.os = s₁.os ∧ AllBare s'.gens) s₁ := by
    intro H frozen seq ok alone
    have plain : ∀ {b : Addr} {o : Obj}, s₁.heap.get? b = some o → (b = a → False) → H b = none := fun {b o} _ nb => by
      cases q : H b with
      | none => rfl
      | some u => exact (nb (alone b (by rw [q]; simp)).1).elim
    have space : ∀ {b : Addr} {m : Str → Option Value}, s₁.heap.Ns b m → (hidT s₁.heap H).Ns b m := fun {b m} ⟨o, es, ep, e, d, r⟩ =>
      ⟨o, es, ep, hidT_get e (plain e fun z => by
        rw [z, obj] at e
        cases e
        cases (show Data.seq vs.toArray _ = Data.dict es ep from d)), d, r⟩
    have kept : K.In (hidT s₁.heap H) := fun b o e => hidT_get (inn b o e) (by
      cases q : H b with
      | none => rfl
      | some u =>
        have z := (alone b (by rw [q]; simp)).2
        rw [z] at e
        cases e)
    have md : Mod K mg (hidT s₁.heap H) := ⟨kept, space glob, ⟨mb, space bns, boot⟩, by
      obtain ⟨mc, h1, h2⟩ := lim
      exact ⟨mc, space h1, h2⟩⟩
    have env : Env0 P w K mg (hidT s₁.heap H) callerA [] s₁ H :=
      ⟨rfl, md, fun b o e => of_hidT e, Nat.le_of_eq (hidT_size _ _), trivial, fun b hb => (by cases hb), ok, AllBare.of_eq gens⟩
    have res := (F _ kept (space glob)).go [] s₁ H ⟨[.ref a], []⟩ [.ref a] [.ref a] _ _ room env (bind s₁ (.ref a)) (.cons rfl .nil) (want H seq)
    refine codeAny_mono res fun r s' h => ?_
    cases r with
    | error e => exact False.elim h
    | ok fl =>
      cases fl with
      | next => exact False.elim h
      | brk => exact False.elim h
      | cont => exact False.elim h
      | ret u =>
        obtain ⟨v, H', os, bare, un, ok', rel, q⟩ := h
        obtain rfl : v = .bl true := q
        obtain rfl : u = Value.bool true := rel
        refine ⟨rfl, OldK.of_keep
              fun b o e => ?_, os, bare⟩
        rcases frozen b with z | ⟨ob, xs, z⟩
        · exact un.keep b o e z (fun z => by cases z) (fun z => by cases z)
        · obtain ⟨e1, _⟩ := ok b _ z
          obtain ⟨e2, _⟩ := ok' b _ (un.frzs b ob _ z)
          rw [e] at e1
          cases e1
          exact e2
  cases hk : K.lookup a with
  | some o =>
    have e := inn a o hk
    rw [obj] at e
    cases e
    refine main (fun _ => none) (fun _ => .inl rfl) (.inr ⟨_, vs.toArray, _, hk, rfl, rfl, rfl, ?_, ?_⟩) (fun b u z => by cases (show (none : Option HO) = some u from z)) fun b z => absurd rfl z
    · rw [List.size_toArray, many]
      exact short
    · simpa using vals
  | none =>
    refine main (upd (fun _ => none) a (.frz { cls := .type "list", data := .seq vs.toArray } (.lst (ns.map V.int)))) (fun b => ?_) (.inl (.inr ⟨_, upd_same⟩)) (fun b u z => ?_) fun b z => ?_
    · by_cases hb : b = a
      · rw [hb]
        exact .inr ⟨_, _, upd_same⟩
      · exact .inl (upd_ne hb)
    · by_cases hb : b = a
      · subst hb
        rw [upd_same] at z
        cases z
        exact ⟨obj, by rw [List.length_map]; exact short, vs, _, vals, obj⟩
      · rw [upd_ne hb] at z
        cases z
    · by_cases hb : b = a
      · exact ⟨hb, by rw [hb]; exact hk⟩
      · exact absurd (upd_ne hb) z
/-- the goal that the head leaves -/
theorem caller_walk {l : PySem.W.OpenLaw} {n k : Nat} {q : Program} {loose : List Str} {XP : (Str → Option Value) → Heap → Prop} {YP : World → Heap → Prop} {d : DefRec} {K : Params → PySem.W.Frag} {sp : World → Sp} {x : Str}
    (most : l.most = some n) (small : n ≤ sizeLine) (plain : d.params.defaults = []) (room : Room k callerA)
    (Y : ∀ (w : World) (h : Heap), YP w h → (K w.params).In h)
    (F : ∀ (w : World) (mg : Str → Option Value) (fa : Addr) (h : Heap), (K w.params).In h → h.Ns mainGlobals mg → mg d.name = some (.ref fa) →
      ∃ fd : FuncData, (∀ (s : Shared) (u :
            Value), BindsTo s fd ⟨[u], []⟩ [(x, u)]) ∧
        ∀ base : Heap, (K w.params).In base → base.Ns mainGlobals mg → AtCaller l.prog w (K w.params) mg base CX0 k fa fd [x] (sp w))
    (want : ∀ (w : World) (H : Hp) (a : Addr) (ns : List Int), ns.length ≤ n → SqL (K w.params) H a (ns.map V.int) → sp w [.ref a] H (fun v _ => v = .bl true) fun _ _ _ => False) :
    PySem.W.WalkO q loose XP YP l.row.toRowW
          d [] (fun f vs => PySem.call f vs) := by
  refine Att.attach_call most plain fun w s₀ s₁ mg mb fa o pm cd doc a vs ns G y ho hd hcd hmg obj inz many gens => ?_
  obtain ⟨fd, bind, run⟩ := F w mg fa _ (Y w _ y) G.T.g hmg
  exact caller_runs (Y w _ y) G.T.g G.T.b G.T.builtins G.T.nolimit gens obj inz (Nat.le_trans many small) room run bind fun H seq => want w H a ns many seq
end XK
end
section
set_option Elab.async false
set_option linter.all false
set_option maxRecDepth 100000
set_option maxHeartbeats 4100000
namespace LA
open PySem L2
/-! ### the text by places -/
def top (i : Nat) : Stmt := PySem.Challenge.pw_linestream_k05_whole_changes_by_rules.main.body.getD i (.Pass ⟨0, 0, 0, 0⟩)
abbrev sPen : Stmt := top 24
abbrev sDraw : Stmt := top 25
abbrev sPick : Stmt := top 26
/-! ### the pen: a dict of cells, turn, left -/
abbrev kC : Key := Sum.inr "cells"
abbrev kT : Key := Sum.inr "turn"
abbrev kL : Key := Sum.inr "left"
theorem nCT : ¬ (kC = kT) := by decide +kernel
theorem nCL : ¬ (kC = kL) := by decide +kernel
theorem nTC : ¬ (kT = kC) := by decide +kernel
theorem nTL : ¬ (kT = kL) := by decide +kernel
theorem nLC : ¬ (kL = kC) := by decide +kernel
theorem nLT : ¬ (kL = kT) := by decide +kernel
theorem put_same_len {kvs : List (Key × V)} {k : Key} {v u : V} (h : valV kvs k = some u) : (putK kvs k v).length = kvs.length := by
  unfold putK
  rw [valV_any, h]
  simp
/-- the pen stands at d, at most n turns were drawn, its cells at c are the ints ns -/
structure Pen (H : Hp) (d c : Addr) (n : Int) (ns : List Int) (kvs : List (Key × V)) (t l : Int) : Prop where
  dc : H d = some (.dK kvs)
  vc : valV kvs kC = some (.ref c)
  vt : valV kvs kT = some (.int t)
  vl : valV kvs kL = some (.int l)
  t0 : 0 ≤ t
  tn : t ≤ n
  sz : kvs.length ≤ 3
  cs : H c = some (.lst (ns.map V.int))
  cl : ns.length ≤ 63
theorem Pen.getC {H d c n ns kvs t l} (p : Pen H d c n ns kvs t l) : DGet H d (.str "cells") (some (.ref c)) := by
  have h := DGet.k (k := kC) p.dc
  rw [p.vc] at h
  exact h
theorem Pen.getT {H d c n ns kvs t l} (p : Pen H d c n ns kvs t l) : DGet H d (.str "turn") (some (.int t)) := by
  have h := DGet.k (k := kT) p.dc
  rw [p.vt] at h
  exact h
theorem Pen.getL {H d c n ns kvs t l} (p : Pen H d c n ns kvs t l) : DGet H d (.str "left") (some (.int l)) := by
  have h := DGet.k (k := kL) p.dc
  rw [p.vl] at h
  exact h
theorem Pen.small {H d c n ns kvs t l} (p : Pen H d c n ns kvs t l) : kvs.length < sizeLine := small1000 (by have := p.sz; omega)
def PenAt (H : Hp) (d c : Addr) (n : Int) (ns : List Int) : Prop := ∃ kvs t l, Pen H d c n ns kvs t l
theorem Pen.ne {H d c n ns kvs t l} (p : Pen H d c n ns kvs t l) : c ≠ d := ne_of p.cs p.dc (by intro z; cases z)
theorem PenAt.ne {H d c n ns} (p : PenAt H d c n ns) : c ≠ d := by
  obtain ⟨_, _, _, p⟩ := p
  exact p.ne
theorem Pen.keep {H H' d c n ns kvs t l} (p : Pen H d c n ns kvs t l) (h : Same H H') : Pen H' d c n ns kvs t l :=
  ⟨h _ _ p.dc, p.vc, p.vt, p.vl, p.t0, p.tn, p.sz, h _ _ p.cs, p.cl⟩
theorem PenAt.keep {H H' d c n ns} (p : PenAt H d c n ns) (h : Same H H') : PenAt H' d c n ns := by
  obtain ⟨_, _, _, p⟩ := p
  exact ⟨_, _, _, p.keep h⟩
theorem Pen.putT {H d c n ns kvs t l} (p : Pen H d c n ns kvs t l) : Pen (upd H d (.dK (putK kvs kT (.int (t + 1))))) d c (n + 1) ns (putK kvs kT (.int (t + 1))) (t + 1) l :=
  ⟨upd_same, by rw [valV_put, if_neg nCT]; exact p.vc, by rw [valV_put, if_pos rfl], by rw [valV_put, if_neg nLT]; exact p.vl, by have := p.t0; omega, by have := p.tn; omega, by rw [put_same_len p.vt]; exact p.sz, by rw [upd_ne p.ne]; exact p.cs, p.cl⟩
theorem Pen.putL {H d c n ns kvs t l} (p : Pen H d c n ns kvs t l) (l' : Int) : Pen (upd H d (.dK (putK kvs kL (.int l')))) d c n ns (putK kvs kL (.int l')) t l' :=
  ⟨upd_same, by rw [valV_put, if_neg nCL]; exact p.vc, by rw [valV_put, if_neg nTL]; exact p.vt, by rw [valV_put, if_pos rfl], p.t0, p.tn, by rw [put_same_len p.vl]; exact p.sz, by rw [upd_ne p.ne]; exact p.cs, p.cl⟩
theorem Pen.more {H d c n m ns kvs t l} (p : Pen H d c n ns kvs t l) (h : n ≤ m) : PenAt H d c m ns :=
  ⟨_, _, _, p.dc, p.vc, p.vt, p.vl, p.t0, Int.le_trans p.tn h, p.sz, p.cs, p.cl⟩
/-- all that was tracked is as it was, but at d -/
def But (d : Addr) (H H' : Hp) : Prop := ∀ b o, H b = some o → b ≠ d → H' b = some o
theorem But.refl {d : Addr} {H : Hp} : But d H H := fun _ _ h _ => h
theorem But.trans {d : Addr} {H H1 H2 : Hp} (a : But d H H1) (b : But d H1 H2) : But d H H2 := fun c o h n => b c o (a c o h n) n
theorem But.same {d : Addr} {H H' : Hp} (a : Same H H') : But d H H' := fun c o h _ => a c o h
theorem same_upd {H : Hp} {p : Addr} {o : HO} (hp : H p = none) : Same H (upd H p o) := fun b u e => by
  rw [upd_ne (ne_of_none e hp)]
  exact e
theorem but_upd {H : Hp} {d : Addr} {o : HO} : But d H (upd H d o) := fun b u e n => by
  rw [upd_ne n]
  exact e
theorem dp_ints {K : PySem.W.Frag} {H : Hp} : ∀ ns : List Int, DpAll K H (ns.map V.int) (ns.map PyData.int)
  | [] => .nil
  | n :: r => .cons (.int n) (dp_ints r)
theorem canLay_ints : ∀ ns : List Int, PyData.canLayAll0 (ns.map PyData.int) = true
  | [] => rfl
  | n :: r => by
    show (PyData.canLay0 (.int n) && PyData.canLayAll0 (r.map PyData.int)) = true
    rw [canLay_ints r]
    rfl
theorem depth_ints : ∀ ns : List Int, PyData.depthAll (ns.map PyData.int) = 0
  | [] => rfl
  | n :: r => by
    show max (PyData.depth (.int n)) (PyData.depthAll (r.map PyData.int)) = 0
    rw [depth_ints r]
    rfl
theorem shaped_ints (ns : List Int) : SeqAt.shaped (.list (ns.map PyData.int)) = true := by
  unfold SeqAt.shaped
  have h1 : PyData.canLay0 (.list (ns.map PyData.int)) = true := by
    unfold PyData.canLay0
    exact canLay_ints ns
  have h2 : PyData.depth (.list (ns.map PyData.int)) ≤ 64 := by
    unfold PyData.depth
    rw [depth_ints]
    decide
  rw [h1, decide_eq_true h2]
  rfl
/-! ### the promises -/
def spPen (K : PySem.W.Frag) : Sp := fun vs H Q _ => ∃ (a : Addr) (ns : List Int), vs = [.ref a] ∧ SqL K H a (ns.map V.int) ∧ ns.length ≤ 63 ∧
  ∀ (d c : Addr) (ms : List Int) (H' : Hp), PenAt H' d c 0 ms → Same H H' → H d = none → H c = none → Q (.ref d) H'
/-- draw: any number below the span -/
def spDraw : Sp := fun vs H Q _ => ∃ (d c : Addr) (n : Int) (ns : List Int) (span : Int), vs = [.ref d, .int span] ∧ PenAt H d c n ns ∧ n < 1000000 ∧ 1 ≤ span ∧ span < 1000000 ∧
  ∀ (r : Int) (H' : Hp), 0 ≤ r → r < span → PenAt H' d c (n + 1) ns → But d H H' → Q (.int r) H'
structure Txt (mg : Str → Option Value) : Prop where
  len : mg "len" = none
  int : mg "int" = none
  list : mg "list" = none
  abs : mg "abs" = none
def primesI : List Int := [2147483629, 2147483647, 2147483587, 2147483563, 2147483579]
theorem prime_at {k : Int} : ∃ p : Int, atI (primesI.map V.int) (k.fmod 5) = some (.int p) ∧ 2 ≤ p ∧ p < 2147483648 := by
  have h0 := Int.fmod_nonneg_of_pos k (b := 5) (by decide)
  have h1 := Int.fmod_lt_of_pos k (b := 5) (by decide)
  generalize k.fmod 5 = r at h0 h1
  have : r = 0 ∨ r = 1 ∨ r = 2 ∨ r = 3 ∨ r = 4 := by omega
  rcases this with rfl | rfl | rfl | rfl | rfl
  · exact ⟨2147483629, atI_nat (j := 0) rfl, by decide, by decide⟩
  · exact ⟨2147483647, atI_nat (j := 1) rfl, by decide, by decide⟩
  · exact ⟨2147483587, atI_nat (j := 2) rfl, by decide, by decide⟩
  · exact ⟨2147483563, atI_nat (j := 3) rfl, by decide, by decide⟩
  · exact ⟨2147483579, atI_nat (j := 4) rfl, by decide, by decide⟩
theorem fmod_in {a b : Int} (h : 0 < b) : 0 ≤ a.fmod b ∧ a.fmod b < b := ⟨Int.fmod_nonneg_of_pos a h, Int.fmod_lt_of_pos a h⟩
theorem at_fmod {α : Type} {xs : List α} {k : Int} (h : 0 < (xs.length : Int)) : ∃ (j : Nat) (v : α), k.fmod (xs.length : Int) = (j : Int) ∧ xs[j]? = some v := by
  obtain ⟨h0, h1⟩ := fmod_in (a := k) h
  refine ⟨(k.fmod xs.length).toNat, xs[(k.fmod xs.length).toNat]'(by omega), by omega, List.getElem?_eq_getElem _⟩
section
variable {P : Program} {w : World} {K : PySem.W.Frag} {mg : Str → Option Value} {base : Heap}
theorem scD : FnScope ["_law_pen_here", "_law_span", "_law_digit", "_law_turn", "_law_cell", "_law_primes", "_law_prime", "_law_drawn"] ["_law_pen_here", "_law_span"] (defScope sDraw) := ⟨rfl, rfl, rfl, by decide +kernel, rfl, by decide +kernel, by decide +kernel⟩
theorem ok_draw {f : Addr} {fd : FuncData} (F : Fun K "_law_draw" "_law_draw" sDraw f fd) (T : Txt mg) : FnOk P w K mg base CX0 1 f fd ["_law_pen_here", "_law_span"] spDraw := by
  refine F.ok scD (fun vs H Q E h => ?_) (fun cdv A outer s H vs Q E hr h => ?_)
  · obtain ⟨d, c, n, ns, span, rfl, _⟩ := h
    rfl
  · obtain ⟨d, c, n, ns, span, rfl, ⟨kvs, t, l, p⟩, hn, s1, s2, k⟩ := h
    have hu := hu_of hr
    have hu6 := hr.units
    have t0 := p.t0
    have tn := p.tn
    refine ⟨_, pss_cons (by exact (ps_if (pt_cmpR op_gt (pe_dget hu (pv 0) pe_str (fun _ _ => rfl)) pe_int (nomark _))
          (pss_cons (ps_set (i := 2) scD.nd rfl (.inl rfl) (pe_op op_modN (pe_callTy call_int1 (by rfl) T.int (by decide +kernel) (pa_cons (pe_dget hu (pv 0) pe_str (fun _ _ => rfl)) pa_nil)) (pv 1)))
          (pss_cons (ps_dput hu (pv 0) pe_str (pe_op op_fdivN (pe_dget hu (pv 0) pe_str (fun _ _ => rfl)) (pv 1)) rfl)
          (pss_one (ps_ret (pv 2))))) pss_nil)) (
      pss_cons (by exact (ps_set (i := 3) scD.nd rfl (.inl rfl) (pe_dget hu (pv 0) pe_str (fun _ _ => rfl)))) (
      pss_cons (by exact (ps_dput hu (pv 0) pe_str (pe_op op_add (pv 3) pe_int) rfl)) (
      pss_cons (by exact (ps_set (i := 4) scD.nd rfl (.inl rfl) (pe_op op_add (pe_op op_mul pe_int (pv 3)) pe_int))) (
      pss_cons (by exact (ps_if (pt_cmpR (op_neD hu6) (pe_dget hu (pv 0) pe_str (fun _ _ => rfl)) (pe_lst pa_nil) (nomark _))
          (pss_one (ps_set (i := 4) scD.nd rfl (.inl rfl) (pe_ix ix_list (pe_dget hu (pv 0) pe_str (fun _ _ => rfl))
            (pe_op op_modN (pe_callTy call_int1 (by rfl) T.int (by decide +kernel) (pa_cons (pv 3) pa_nil)) (pe_callB call_len_seq (by rfl) T.len PySem.boot_len (pa_cons (pe_dget hu (pv 0) pe_str (fun _ _ => rfl)) pa_nil))) (fun _ _ => rfl)))) pss_nil)) (
      pss_cons (by exact (ps_if (PW.pt (pw_and (pt_cmpR op_lt (pv 3) (pe_callB call_len_seq (by rfl) T.len PySem.boot_len (pa_cons (pe_dget hu (pv 0) pe_str (fun _ _ => rfl)) pa_nil)) (nomark _))
            (pw_and1 (pt_cmpR op_ge (pe_callB call_abs (by rfl) T.abs (by decide +kernel) (pa_cons (pv 4) pa_nil)) (pe_op op_pow pe_int pe_int) (nomark _)))))
          (pss_cons (ps_dput hu (pv 0) pe_str (pe_op op_fdivN (pe_op op_sub (pe_callB call_abs (by rfl) T.abs (by decide +kernel) (pa_cons (pv 4) pa_nil)) (pe_op op_pow pe_int pe_int)) (pv 1)) rfl)
          (pss_one (ps_ret (pe_op op_modN (pe_op op_sub (pe_callB call_abs (by rfl) T.abs (by decide +kernel) (pa_cons (pv 4) pa_nil)) (pe_op op_pow pe_int pe_int)) (pv 1))))) pss_nil)) (
      pss_cons (by exact (ps_set (i := 5) scD.nd rfl (.inl rfl) (pe_lst (pa_cons pe_int (pa_cons pe_int (pa_cons pe_int (pa_cons pe_int (pa_cons pe_int pa_nil)))))))) (
      pss_cons (by exact (ps_set (i := 6) scD.nd rfl (.inl rfl) (pe_ix ix_list (pv 5) (pe_op op_modN (pe_callTy call_int1 (by rfl) T.int (by decide +kernel) (pa_cons (pv 3) pa_nil)) pe_int) (fun _ _ => rfl)))) (
      pss_cons (by exact (ps_set (i := 7) scD.nd rfl (.inl rfl) (pe_op op_modN (pe_callTy call_int1 (by rfl) T.int (by decide +kernel) (pa_cons
          (pe_op op_add (pe_op op_add (pe_op op_mul (pe_op op_modN (pe_callTy call_int1 (by rfl) T.int (by decide +kernel) (pa_cons (pv 4) pa_nil)) (pv 6)) pe_int)
            (pe_op op_mul (pv 3) (pe_op op_add (pe_op op_mul pe_int (pv 3)) pe_int))) pe_int) pa_nil)) (pv 6)))) (
      pss_cons (by exact (ps_set (i := 7) scD.nd rfl (.inl rfl) (pe_op op_modN (pe_callTy call_int1 (by rfl) T.int (by decide +kernel) (pa_cons (pe_op op_mul (pv 7) (pe_op op_add (pv 7) pe_int)) pa_nil))
          (pe_ix ix_list (pv 5) (pe_op op_modN (pe_callTy call_int1 (by rfl) T.int (by decide +kernel) (pa_cons (pe_op op_add (pv 3) pe_int) pa_nil)) pe_int) (fun _ _ => rfl))))) (
      pss_one (by exact (ps_ret (pe_op op_modN (pe_callTy call_int1 (by rfl) T.int (by decide +kernel) (pa_cons (pe_op op_fdiv (pe_op op_mod (pe_callTy call_int1 (by rfl) T.int (by decide +kernel) (pa_cons
          (pe_op op_add (pe_op op_add (pe_op op_mul (pv 7) (pv 7)) (pe_op op_mul pe_int (pv 7))) (pv 3)) pa_nil)) pe_int) pe_int) pa_nil)) (pv 1)))))))))))))), ?_⟩
    have ns0 : span ≠ 0 := by omega
    have nsb : span.natAbs < 1073741824 := by omega
    -- left > 0
    refine ⟨_, rfl, d, _, rfl, p.getL, _, _, rfl, rfl, _, rfl, ?_⟩
    refine ite2 (fun _ => ?_) (fun _ => ?_)
    · refine ⟨_, rfl, d, _, rfl, p.getL, .inl ⟨_, rfl, _, rfl, _, _, rfl, rfl, ns0, ?_⟩⟩
      refine ⟨_, rfl, d, _, rfl, p.getL, _, rfl, _, _, rfl, rfl, ⟨ns0, nsb⟩, _, rfl, d, _, rfl, DPut.k (k := kL) p.dc p.small, ?_⟩
      refine ⟨_, rfl, ?_⟩
      obtain ⟨r0, r1⟩ := fmod_in (a := l) (b := span) (by omega)
      exact k _ _ r0 r1 ((p.putL _).more (by omega)) but_upd
    -- turn, turn + 1, cell
    · refine ⟨_, rfl, d, _, rfl, p.getT, ?_⟩
      refine ⟨_, rfl, _, _, rfl, rfl, _, rfl, d, _, rfl, DPut.k (k := kT) p.dc p.small, ?_⟩
      have p1 := p.putT
      have b1 : But d H (upd H d (.dK (putK kvs kT (.int (t + 1))))) := but_upd
      generalize upd H d (.dK (putK kvs kT (.int (t + 1)))) = H1 at p1 b1
      clear p
      generalize putK kvs kT (.int (t + 1)) = kvs1 at p1
      have t1 := p1.t0
      have t2 := p1.tn
      refine ⟨_, rfl, _, _, rfl, rfl, .inl ⟨by decide, by decide⟩, _, _, rfl, rfl, ?_⟩
      -- the cell
      refine ⟨_, rfl, d, _, rfl, p1.getC, (by show 0 ≤ sizeLine; decide), fun l0 hl0 => ?_⟩
      have p2 := p1.keep (same_upd (o := .lst []) hl0)
      have b2 : But d H (upd H1 l0 (.lst [])) := b1.trans (But.same (same_upd hl0))
      refine ⟨.list (ns.map PyData.int), .list [], .lst (SqL.of p2.cs) (dp_ints ns), .lst (SqL.of upd_same) .nil, shaped_ints ns, rfl, _, rfl, ?_⟩
      generalize upd H1 l0 (.lst []) = H2 at p2 b2
      refine ite2 (fun hne => ?ga) (fun _ => ?gb)
      case' ga =>
        have npos : 0 < ((ns.map V.int).length : Int) := by
          cases ns with
          | nil => exact absurd hne (by decide)
          | cons a r => rw [List.map_cons, List.length_cons]; omega
        obtain ⟨j, v, e1, e2⟩ := at_fmod (xs := ns.map V.int) (k := t) npos
        obtain ⟨z, rfl⟩ : ∃ z, v = V.int z := by
          rw [List.getElem?_map] at e2
          cases e : ns[j]? with
          | none => rw [e]
                at e2; cases e2
          | some z => rw [e] at e2; exact ⟨z, (Option.some.inj e2).symm⟩
        refine ⟨_, rfl, d, _, rfl, p2.getC, _, rfl, .inl ⟨_, rfl, _, rfl, d, _, rfl, p2.getC, c, _, rfl, .inl (SqL.of p2.cs), _, _, rfl, rfl, (by omega), c, _, _, _, rfl, rfl, SqL.of p2.cs, (by rw [e1]; exact atI_nat e2), ?_⟩⟩
      case' gb =>
        (try dsimp only)
        generalize 43 * t + 19 = z
      all_goals
        refine ⟨_, rfl, _, rfl, d, _, rfl, p2.getC, c, _, rfl, .inl (SqL.of p2.cs), _, _, rfl, rfl, _, rfl, ?_⟩
        refine ite2 (fun _ => ?_) (fun _ => ?_)
      case' ga.refine_1 =>
        refine ⟨_, rfl, _, rfl, _, _, rfl, rfl, ⟨by decide, by decide, by decide⟩, _, _, rfl, rfl, _, rfl, ?_⟩
        refine ite2 (fun _ => ?u1) (fun _ => ?u2)
      case' gb.refine_1 =>
        refine ⟨_, rfl, _, rfl, _, _, rfl, rfl, ⟨by decide, by decide, by decide⟩, _, _, rfl, rfl, _, rfl, ?_⟩
        refine ite2 (fun _ => ?v1) (fun _ => ?v2)
      case' u1 =>
        refine ⟨_, rfl, _, rfl, _, _, rfl, rfl, ⟨by decide, by decide, by decide⟩, _, _, rfl, rfl, _, rfl, _, _, rfl, rfl, ⟨ns0, nsb⟩, _, rfl, d, _, rfl, DPut.k (k := kL) p2.dc p2.small, ?_⟩
        refine ⟨_, rfl, _, rfl, _, _, rfl, rfl, ⟨by decide, by decide, by decide⟩, _, _, rfl, rfl, _, rfl, _, _, rfl, rfl, ns0, ?_⟩
        generalize (if z < 0 then -z else z) - (10 : Int) ^ (18 : Int).toNat = y
        obtain ⟨r0, r1⟩ := fmod_in (a := y) (b := span) (by omega)
        exact k _ _ r0 r1 ((p2.putL _).more (by omega)) (b2.trans but_upd)
      case' v1 =>
        refine ⟨_, rfl, _, rfl, _, _, rfl, rfl, ⟨by decide, by decide, by decide⟩, _, _, rfl, rfl, _, rfl, _, _, rfl, rfl, ⟨ns0, nsb⟩, _, rfl, d, _, rfl, DPut.k (k := kL) p2.dc p2.small, ?_⟩
        refine ⟨_, rfl, _, rfl, _, _, rfl, rfl, ⟨by decide, by decide, by decide⟩, _, _, rfl, rfl, _, rfl, _, _, rfl, rfl, ns0, ?_⟩
        obtain ⟨r0, r1⟩ := fmod_in (a := (if z < 0 then -z else z) - (10 : Int) ^ (18 : Int).toNat) (b := span) (by omega)
        exact k _ _ r0 r1 ((p2.putL _).more (by omega)) (b2.trans but_upd)
      all_goals
        obtain ⟨q, e1, q2, q3⟩ := prime_at (k := t)
        obtain ⟨q', e1', q2', q3'⟩ := prime_at (k := t + 2)
        refine ⟨(by show 5 ≤ sizeLine; decide), fun l1 hl1 => ?_⟩
        have p3 := p2.keep (same_upd (o := .lst (primesI.map V.int)) hl1)
        have b3 : But d H (upd H2 l1 (.lst (primesI.map V.int))) := b2.trans (But.same (same_upd hl1))
        have hp : (upd H2 l1 (.lst (primesI.map V.int))) l1 = some (.lst (primesI.map V.int)) := upd_same
        refine ⟨_, rfl, _, rfl, .inl ⟨_, rfl, _, _, rfl, rfl, (by show (5 : Int) ≠ 0; decide), l1, primesI.map V.int, _, _, rfl, rfl, SqL.of hp, e1, ?_⟩⟩
        obtain ⟨x0, x1⟩ := fmod_in (a := z) (b := q) (by omega)
        refine ⟨_, rfl, .inl ⟨_, rfl, _, rfl, _, _, rfl, rfl, (by omega), _, _, rfl, rfl, .inr ⟨by decide, by decide⟩, _, rfl, _, rfl, _, _, rfl, rfl, .inl ⟨by decide, by decide⟩, _, _, rfl, rfl, _, _, rfl, rfl, .inl ⟨by omega, by omega⟩,
          _, _, rfl, rfl, _, _, rfl, rfl, .inl ⟨_, rfl, _, rfl, _, _, rfl, rfl, (by omega), ?_⟩⟩⟩
        obtain ⟨y0, y1⟩ := fmod_in (a := z.fmod q * 39373 + t * (30011 * t + 8117) + 23) (b := q) (by omega)
        (try dsimp only)
        generalize (z.fmod q * 39373 + t * (30011 * t + 8117) + 23).fmod q = y' at y0 y1 ⊢
        refine ⟨_, rfl, _, rfl, _, _, rfl, rfl, _, _, rfl, rfl, .inl ⟨by omega, by omega⟩, .inl ⟨_, rfl, _, rfl, _, rfl, _, _, rfl, rfl, .inl ⟨_, rfl, _, _, rfl, rfl, (by show (5 : Int) ≠ 0; decide), l1, primesI.map V.int, _, _, rfl, rfl, SqL.of hp, e1', _, _, rfl, rfl, (by omega), ?_⟩⟩⟩
        obtain ⟨w0, w1⟩ := fmod_in (a := y' * (y' + 69621)) (b := q') (by omega)
        (try dsimp only)
        generalize (y' * (y' + 69621)).fmod q' = w at w0 w1 ⊢
        refine ⟨_, rfl, _, rfl, _, _, rfl, rfl, .inl ⟨by omega, by omega⟩, _, rfl, _, _, rfl, rfl, .inl ⟨by decide, by decide⟩, _, _, rfl, rfl, _, rfl, _, _, rfl, rfl, .inl ⟨_, rfl, _, _, rfl, rfl, (by show (0 : Int) < 2147483549; decide), _, _, rfl, rfl, ⟨by decide, by decide⟩, .inl ⟨_, rfl, _, rfl, _, _, rfl, rfl, ns0, ?_⟩⟩⟩
        (try dsimp only)
        generalize (w * w + 16807 * w + t) % 2147483549 / 64 = u
        obtain ⟨r0, r1⟩ := fmod_in (a := u) (b := span) (by omega)
        exact k _ _ r0 r1 (p3.more (by omega)) b3
end
theorem cutInts (ns : List Int) (lo hi : Option Int) : ∃ ms : List Int, cutV (ns.map V.int) lo hi = ms.map V.int ∧ ms.length ≤ ns.length := by
  unfold cutV
  rw [← List.map_drop, ← List.map_take]
  refine ⟨_, rfl, ?_⟩
  rw [List.length_take,
        List.length_drop]
  omega
section
variable {P : Program} {w : World} {K : PySem.W.Frag} {mg : Str → Option Value} {base : Heap}
theorem scN : FnScope ["_law_script"] ["_law_script"] (defScope sPen) := ⟨rfl, rfl, rfl, by decide +kernel, rfl, by decide +kernel, by decide +kernel⟩
theorem ok_pen {f : Addr} {fd : FuncData} (F : Fun K "_law_pen" "_law_pen" sPen f fd) (T : Txt mg) : FnOk P w K mg base CX0 1 f fd ["_law_script"] (spPen K) := by
  refine F.ok scN (fun vs H Q E h => ?_) (fun cdv A outer s H vs Q E hr h => ?_)
  · obtain ⟨a, ns, rfl, _⟩ := h
    rfl
  · obtain ⟨a, ns, rfl, hS, hl, k⟩ := h
    refine ⟨_, pss_one (by exact (ps_ret (pe_disp (pps_cons pe_str (pe_callTy call_list_of (by rfl) T.list (by decide +kernel) (pa_cons (pe_slice sl_list (pv 0) po_none (po_some pe_int)) pa_nil)) (pps_cons pe_str pe_int (pps_cons pe_str pe_int pps_nil))) (by rfl) (by rfl) (fun z => by cases z) (by decide)))), ?_⟩
    intro d nd
    have s1 : Same H (upd H d (.dK [])) := same_upd nd
    obtain ⟨ms, em, lm⟩ := cutInts ns none (some 63)
    refine ⟨_, rfl, _, rfl, a, _, rfl, s1.seq hS, fun p np => ?_⟩
    have s2 : Same (upd H d (.dK [])) (upd (upd H d (.dK [])) p (.lst (cutV (ns.map V.int) none (some 63)))) := same_upd np
    refine ⟨p, _, rfl, .inl (SqL.of upd_same), fun c nc => ?_⟩
    have s3 : Same (upd (upd H d (.dK [])) p (.lst (cutV (ns.map V.int) none (some 63)))) (upd (upd (upd H d (.dK [])) p (.lst (cutV (ns.map V.int) none (some 63)))) c (.lst (cutV (ns.map V.int) none (some 63)))) := same_upd nc
    have hd := (s2.trans s3) _ _ (upd_same (H := H) (a := d) (o := .dK []))
    refine ⟨hd, [(kC, .ref c), (kT, .int 0), (kL, .int 0)], rfl, by show 3 ≤ 15; decide, ?_⟩
    have ncd : c ≠ d := Ne.symm (ne_of_none (s2 _ _ upd_same) nc)
    refine k d c ms _ ⟨_, 0, 0, upd_same, ?_, ?_, ?_, Int.le_refl _, Int.le_refl _, ?_, ?_, by omega⟩ (fun b o e => ?_) nd ?_
    · show valV (putK (putK (putK [] kC (.ref c)) kT (.int 0)) kL (.int 0)) kC = _
      rw [valV_put, if_neg nCL, valV_put, if_neg nCT, valV_put, if_pos rfl]
    · show valV (putK (putK (putK [] kC (.ref c)) kT (.int 0)) kL (.int 0)) kT = _
      rw [valV_put, if_neg nTL, valV_put, if_pos rfl]
    · show valV (putK (putK (putK [] kC (.ref c)) kT (.int 0)) kL (.int 0)) kL = _
      rw [valV_put, if_pos rfl]
    · exact length_mergeK _ _
    · rw [upd_ne ncd, upd_same, em]
    · rw [upd_ne (ne_of_none e nd)]
      exact (s1.trans (s2.trans s3)) _ _ e
    · exact (s1.trans s2).free nc
end
end LA
end
section
set_option Elab.async false
set_option linter.all false
set_option maxRecDepth 100000
set_option maxHeartbeats 4100000
namespace XS
open PySem PySem.Spec PyProof.Rows L2
section
variable {X : Cx} {pins : List (Addr × Obj)} {σ : L2.St} {H : Hp} {s : Shared} {f : Addr} {fd : FuncData} {x qual : Str} {st : Stmt} {z : Str} {k : Nat}
/-- a def without parameters that hands back a written text: a token is out behind it -/
theorem run_lit {j : Nat} {p1 p2 : Pos} (F : Fun X.K x qual st f fd) (S : FnScope [] [] (defScope st)) (hb : defBody st = [.Return (some (.Constant (.str z) j p1)) p2]) (bind : ∀ s, BindsTo s fd ⟨[], []⟩ []) (nc : (defScope st).names = []) (hr : Room k X.A)
    (I : Inv X pins σ H s) : wpAny (model X.prog X.w) X.A (call (.ref f) []) (fun v s1 => 1 ≤ s1.toks ∧ ∃ t, v = .str z t ∧ Inv X pins σ H s1) X.xe s := by
  obtain ⟨oc, od, kV, doc, pm, an, cdv, ct, osl, rfl, lk, co⟩ := F.ex
  refine wpAny_call (Att.call_fn (binds := []) I.kIn I.nolimit lk co hr.depth (bind s) rfl (fun s₁ IC => ?_) S.co S.gen S.kind)
  obtain ⟨h₁, tk₁, rfl⟩ := IC.toInCall.same
  rw [hb]
  show wpAny _ _ (execs _ _) _ _ _
  refine wpAny_execs_cons (wpAny_Return_some (Calls.Constant_str ?_))
  refine ⟨Nat.succ_le_succ (Nat.zero_le _), tk₁, rfl, ?_⟩
  exact I.kept (t' := tk₁ + 1) fun b o e => IC.toInCall.keep b o e
/-- signs().replace(y, w) -/
theorem pe_litRepl {j j0 j1 : Nat} {y w : Str} {p p1 p2 q apos pos c0 c1 : Pos} (F : Fun X.K x qual st f fd) (S : FnScope [] [] (defScope st)) (hb : defBody st = [.Return (some (.Constant (.str z) j p1)) p2]) (bind : ∀ s, BindsTo s fd ⟨[], []⟩ []) (nc : (defScope st).names = []) (hr : Room k X.A)
    (gF : X.mg x = some (.ref f)) (hyz : (y == w) = false) (hl : z.length + (z.length + 1) * w.length ≤ 16777216) (hg : Gl X x := by rfl) (hdb : (x == ("__debug__" : Str)) = false := by decide)
    (hst : starEach [.Constant (.str y) j0 c0, .Constant (.str w) j1 c1] X.env = [(false, eval (.Constant (.str y) j0 c0) X.env), (false, eval (.Constant (.str w) j1 c1) X.env)] := by rfl)
    (hbase : attributeBase (.Call (.Name x p) [] [] q) "replace" X.env (eval (.Call (.Name x p) [] [] q) X.env) = eval (.Call (.Name x p) [] [] q) X.env := by rfl) (hline : (apos.endLine == pos.line) = true := by rfl) :
    PE X (.Call (.Attribute (.Call (.Name x p) [] [] q) "replace" apos) [.Constant (.str y) j0 c0, .Constant (.str w) j1 c1] [] pos) (tC (.str (Txt.replace z y w))) := by
  refine ⟨fun pins s σ H Q I h => ?_⟩
  refine PySem.Call_method2 hbase hst hline ?_
  refine wpAny_Call_Name_kw (ld_glob I hg gF ?_ hdb)
  refine PySem.W.callWith_K0 I.kIn F.kp ?_
  refine wpAny_mono (run_lit F S hb bind nc hr I) (fun v s1 hv => ?_) fun _ _ e => e
  obtain ⟨one, tx, rfl, I1⟩ := hv
  refine ⟨"str", _, PySem.F.plainAttrs_str, PySem.F.slot_str_replace, PySem.F.type_str_replace, typeIs_str _ _ _, (fun _ e => nomatch e), Calls.callWith_builtin rfl (Calls.evalArgs_plain (Calls.spliced_cons ?_))⟩
  refine Calls.Constant_str (Calls.spliced_cons (Calls.Constant_str (Calls.spliced_nil ?_)))
  refine PySem.SC.replace (by show s1.toks ≠ 0; omega) (by show s1.toks + 1 ≠ 0; omega) (by show s1.toks ≠ s1.toks + 1; omega) hyz hl fun t' k => ?_
  exact ⟨.str (Txt.replace z y w), H, I1.tok k, ⟨t', rfl⟩, h⟩
end
/-! ### texts by their codes -/
/-- a text's codes -/
abbrev cod (z : Str) : List Nat := z.cps.toList
theorem len_cod (z : Str) : (cod z).length = z.length := by
  show z.cps.toList.length = z.cps.size
  simp
theorem cod_ext {a b : Str} (h : cod a = cod b) : a = b := by
  obtain ⟨⟨x⟩⟩ := a
  obtain ⟨⟨y⟩⟩ := b
  have h' : x = y := h
  rw [h']
/-- the text of one sign -/
def sg (c : Nat) : Str := ⟨#[c]⟩
theorem joinL_sg : ∀ cs : List Nat, TL.joinL [] (cs.map fun c => [c]) = cs := by
  intro cs
  induction cs with
  | nil => rfl
  | cons c r ih =>
    cases r with
    | nil => rfl
    | cons d r' =>
      show [c] ++ [] ++ TL.joinL [] ((d :: r').map fun c => [c]) = c :: d :: r'
      rw [ih]
      rfl
theorem join_sg (cs : List Nat) : cod (Txt.join ⟨#[]⟩ (cs.map sg)) = cs := by
  have h := SX.join_S [] (cs.map fun c => [c])
  rw [joinL_sg] at h
  have e : (cs.map fun c => [c]).map SX.S = cs.map sg := by
    rw [List.map_map]
    rfl
  rw [e] at h
  show (Txt.join (SX.S []) (cs.map sg)).cps.toList = cs
  rw [h]
theorem sg_inj {c d : Nat} (h : sg c = sg d) : c = d := by
  have e : #[c] = #[d] := congrArg Str.cps h
  simpa using e
end XS
end
section
set_option Elab.async false
set_option linter.all false
set_option maxRecDepth 100000
set_option maxHeartbeats 4100000
namespace LA
open PySem L2 XS
abbrev sSigns : Stmt := top 28
abbrev sFew : Stmt := top 29
abbrev sRow : Stmt := top 30
def Lt (c : Nat) : Prop := 32 ≤ c ∧ c ≤ 126 ∧ c ≠ 37
instance : DecidablePred Lt := fun c => inferInstanceAs (Decidable (_ ∧ _ ∧ _))
/-- two or three unlike letters -/
structure Sgn (z : Str) : Prop where
  lets : ∀ c ∈ cod z, Lt c
  nd : (cod z).Nodup
  two : 2 ≤ z.length
  three : z.length ≤ 3
  nq : ∀ c ∈ cod z, c ≠ 113
def sgsZ : Str := " !\"#$&'()*+,-./0123456789:;<=>?@ABCDEFGHIJKLMNOPQRSTUVWXYZ[\\]^_`abcdefghijklmnopqrstuvwxyz{|}~"
theorem few_lets : ∀ c ∈ cod (Txt.replace sgsZ "q" ""), Lt c := by decide +kernel
theorem few_nq : ∀ c ∈ cod (Txt.replace sgsZ "q" ""), c ≠ 113 := by decide +kernel
theorem few_len : (Txt.replace sgsZ "q" "").length = 93 := by decide +kernel
theorem sg_str (c : Nat) : (V.str (sg c)) = V.str ⟨#[c]⟩ := rfl
theorem len_sg (c : Nat) : (sg c).length = 1 := rfl
section
variable {P : Program} {w : World} {K : PySem.W.Frag} {mg : Str → Option Value} {base : Heap}
/-- pick: of a list, or of a text -/
def spPick : Sp := fun vs H Q _ => ∃ (d c : Addr) (n : Int) (ns : List Int) (o : V), vs = [.ref d, o] ∧ PenAt H d c n ns ∧ n < 1000000 ∧
  ((∃ (l : Addr) (xs : List V), o = .ref l ∧ H l = some (.lst xs) ∧ 0 < xs.length ∧ xs.length < 1000000 ∧ ∀ (v : V) (H' : Hp), v ∈ xs → PenAt H' d c (n + 1) ns → But d H H' → Q v H') ∨
   (∃ (z : Str), o = .str z ∧ 0 < z.length ∧ z.length < 1000000 ∧ ∀ (k : Nat) (H' : Hp), k ∈ cod z → PenAt H' d c (n + 1) ns → But d H H' → Q (.str (sg k)) H'))
theorem scP : FnScope ["_law_pen_here", "_law_options"] ["_law_pen_here", "_law_options"] (defScope sPick) := ⟨rfl, rfl, rfl, by decide +kernel, rfl, by decide +kernel, by decide +kernel⟩
theorem ok_pick {f fD : Addr} {fd fdD : FuncData} (F : Fun K "_law_pick" "_law_pick" sPick f fd) (T : Txt mg) (GD : FnOk P w K mg base CX0 1 fD fdD ["_law_pen_here", "_law_span"] spDraw) (mD : mg "_law_draw" = some (.ref fD)) (kD : PySem.W.keepIn K (.ref fD) = true) (bD : Binds K fdD ["_law_pen_here", "_law_span"] []) :
    FnOk P w K mg base CX0 2 f fd ["_law_pen_here", "_law_options"] spPick := by
  refine F.ok scP (fun vs H Q E h => ?_) (fun cdv A outer s H vs Q E hr h => ?_)
  · obtain ⟨d, c, n, ns, o, rfl, _⟩ := h
    rfl
  · obtain ⟨d, c, n, ns, o, rfl, pen, hn, k⟩ := h
    refine ⟨_, pss_one (by exact (ps_ret (pe_ix ix_seq (pv 1) (pe_call GD hr rfl mD kD bD .nil pass0 (pa_cons (pv 0) (pa_cons (pe_callB call_len (by rfl) T.len PySem.boot_len (pa_cons (pv 1) pa_nil)) pa_nil))) (fun _ _ => rfl)))), ?_⟩
    rcases k with ⟨l, xs, rfl, hl, h0, h1, k⟩ | ⟨z, rfl, h0, h1, k⟩
    · have nld : l ≠ d := by
        obtain ⟨_, _, _, p⟩ := pen
        exact ne_of hl p.dc (by intro z; cases z)
      refine ⟨_, rfl, _, rfl, _, rfl, _, xs.length, rfl, .inl ⟨_, SqL.of hl, rfl⟩, ?_⟩
      refine ⟨d, c, n, ns, (xs.length : Int), rfl, pen, hn, by omega, by omega, fun r H' r0 r1 pen' but => ?_⟩
      obtain ⟨j, rfl⟩ := Int.eq_ofNat_of_zero_le r0
      have hj : j < xs.length := by omega
      refine .inl ⟨l, xs, _, xs[j], rfl, rfl, SqL.of (but _ _ hl nld), atI_nat (List.getElem?_eq_getElem hj), ?_⟩
      exact k _ _ (List.getElem_mem hj) pen' but
    · refine ⟨_, rfl, _, rfl, _, rfl, _, z.length, rfl, ⟨Nat.le_trans (Nat.le_of_lt h1) (by decide), rfl⟩, ?_⟩
      refine ⟨d, c, n, ns, (z.length : Int), rfl, pen, hn, by omega, by omega, fun r H' r0 r1 pen' but => ?_⟩
      obtain ⟨j, rfl⟩ := Int.eq_ofNat_of_zero_le r0
      have hj : j < (cod z).length := by rw [len_cod]; omega
      refine .inr (.inr ⟨z, _, (cod z)[j], rfl, rfl, Nat.le_trans (Nat.le_of_lt h1) (by decide), atI_nat (List.getElem?_eq_getElem hj), ?_⟩)
      exact k _ _ (List.getElem_mem hj) pen' but
structure PickAt (P : Program) (w : World) (K : PySem.W.Frag) (mg : Str → Option Value) (base : Heap) (f : Addr) (fd : FuncData) : Prop where
  ok : FnOk P w K mg base CX0 2 f fd ["_law_pen_here", "_law_options"] spPick
  m : mg "_law_pick" = some (.ref f)
  k : PySem.W.keepIn K (.ref f) = true
  b : Binds K fd ["_law_pen_here", "_law_options"] []
/-- few: two or three unlike letters -/
def spFew : Sp := fun vs H Q _ => ∃ (d c : Addr) (n : Int) (ns : List Int), vs = [.ref d] ∧ PenAt H d c n ns ∧ n + 4 < 1000000 ∧
  ∀ (z : Str) (H' : Hp), Sgn z → PenAt H' d c (n + 4) ns → But d H H' → Q (.str z) H'
theorem scF : FnScope ["_law_pen_here", "_law_some", "_law_rare", "_law_k"] ["_law_pen_here"] (defScope sFew) := ⟨rfl, rfl, rfl, by decide +kernel, rfl, by decide +kernel, by decide +kernel⟩
theorem scG : FnScope [] [] (defScope sSigns) := ⟨rfl, rfl, rfl, by decide +kernel, rfl, by decide +kernel, by decide +kernel⟩
def cs (l : List Nat) : List V := l.map fun c => V.str (sg c)
theorem cs_flat (l : List Nat) : (cs l).all flatV = true := by
  simp [cs, flatV]
theorem cs_in (c : Nat) (l : List Nat) : inV (.str (sg c)) (cs l) = decide (c ∈ l) := by
  induction l with
  | nil => rfl
  | cons a r ih =>
    have h : inV (.str (sg c)) (cs (a :: r)) = (eqV (.str (sg a)) (.str (sg c)) || inV (.str (sg c)) (cs r)) := rfl
    rw [h, ih]
    show ((sg a == sg c) || _) = _
    by_cases e : a = c
    · subst e
      simp
    · have : (sg a == sg c) = false := by
        rw [beq_eq_false_iff_ne]
        exact fun z => e (sg_inj z)
      rw [this, Bool.false_or]
      have e' : ¬ c = a := fun z => e z.symm
      simp [e']
theorem cs_cut (l : List Nat) (i : Nat) : cutV (cs l) none (some (i : Int)) = cs (l.take i) := by
  unfold cutV cs
  rw [HT.sIx_nat, HT.sIx_none, List.drop_zero, List.length_map, Nat.sub_zero, ← List.map_take]
  congr 1
  rw [List.take_eq_take_iff]
  omega
theorem cs_strs (l : List Nat) : cs l = (l.map sg).map V.str := by
  unfold cs
  rw [List.map_map]
  rfl
theorem sum_sg (l : List Nat) : ((l.map sg).map (·.length)).sum = l.length := by
  induction l with
  | nil => rfl
  | cons a r ih =>
    rw [List.map_cons, List.map_cons, List.sum_cons, ih, len_sg, List.length_cons]
    omega
theorem sgn_some : ∀ z ∈ (["ab", "abc", "a ", "x~", "01", "\"\\"] : List Str), Sgn z := by
  intro z hz
  simp only [List.mem_cons, List.not_mem_nil, or_false] at hz
  rcases hz with rfl | rfl | rfl | rfl | rfl | rfl <;> exact ⟨by decide +kernel, by decide +kernel, by decide +kernel, by decide +kernel, by decide +kernel⟩
theorem yz_nq : ∀ c ∈ cod "yz", c ≠ 113 := by decide +kernel
theorem yz_lets : ∀ c ∈ cod "yz", Lt c ∧ c ≠ 40 := by decide +kernel
theorem par_is : ∀ c ∈ cod "(", c = 40 := by decide +kernel
theorem PenAt.put {H : Hp} {d c D : Addr} {n : Int} {ns : List Int} {o : HO} (p : PenAt H d c n ns) (h1 : D ≠ d) (h2 : D ≠ c) : PenAt (upd H D o) d c n ns := by
  obtain ⟨kvs, t, l, q⟩ := p
  exact ⟨kvs, t, l, by rw [upd_ne h1.symm]; exact q.dc, q.vc, q.vt, q.vl, q.t0, q.tn, q.sz, by rw [upd_ne h2.symm]; exact q.cs, q.cl⟩
theorem PenAt.fresh {H : Hp} {d c D : Addr} {n : Int} {ns : List Int} (p : PenAt H d c n ns) (h : H D = none) : D ≠ d ∧ D ≠ c := by
  obtain ⟨kvs, t, l, q⟩ := p
  exact ⟨(ne_of_none q.dc h).symm, (ne_of_none q.cs h).symm⟩
theorem PenAt.n0 {H : Hp} {d c : Addr} {n : Int} {ns : List Int} (p : PenAt H d c n ns) : 0 ≤ n := by
  obtain ⟨kvs, t, l, q⟩ := p
  exact Int.le_trans q.t0 q.tn
theorem But.none {d D : Addr} {H G : Hp} (b : But d H G) (n : D ≠ d) (h : G D = Option.none) : H D = Option.none := by
  cases e : H D with
  | none => rfl
  | some o => exact absurd ((b _ _ e n).symm.trans h) (by simp)
theorem But.put {d D : Addr} {H G : Hp} {o : HO} (b : But d H G) (h : H D = Option.none) : But d H (upd G D o) := fun c u e n => by
  rw [upd_ne (ne_of_none e h)]
  exact b c u e n
theorem ok_few {f fS fP : Addr} {fd fdS fdP : FuncData} (F : Fun K "_law_few" "_law_few" sFew f fd) (T : Txt mg) (mR : mg "range" = none) (M : PickAt P w K mg base fP fdP) (FS : Fun K "_law_signs" "_law_signs" sSigns fS fdS) (bS : ∀ s, BindsTo s fdS ⟨[], []⟩ []) (mS : mg "_law_signs" = some (.ref fS)) :
    FnOk P w K mg base CX0 3 f fd ["_law_pen_here"] spFew := by
  refine F.ok scF (fun vs H Q E h => ?_) (fun cdv A outer s H vs Q E hr h => ?_)
  · obtain ⟨d, c, n, ns, rfl, _⟩ := h
    rfl
  · obtain ⟨d, c, n, ns, rfl, pen, hn, k⟩ := h
    have hr2 : Room 2 _ := hr.mono (by decide)
    have hr1 : Room 1 _ := hr.mono (by decide)
    refine ⟨_, pss_cons (by exact (ps_set (i := 1) scF.nd rfl (Or.inr rfl) (pe_lst (pa_cons (pe_call M.ok hr2 rfl M.m M.k M.b .nil pass0 (pa_cons (pv 0) (pa_cons (XS.pe_litRepl FS scG rfl bS rfl hr1 mS (by decide +kernel) (by decide +kernel)) pa_nil))) (pa_cons (pe_call M.ok hr2 rfl M.m M.k M.b .nil pass0 (pa_cons (pv 0) (pa_cons pe_str pa_nil))) (pa_cons (pe_call M.ok hr2 rfl M.m M.k M.b .nil pass0 (pa_cons (pv 0) (pa_cons pe_str pa_nil))) pa_nil)))))) (
      pss_cons (by exact (ps_set (i := 2) scF.nd rfl (.inl rfl) (pe_join pe_str (pe_lc (own := [("_law_k", 3)]) (g := gName 3) (tt := tTest (tOp (rIn K true) (tOp (rIxL K) (tVar 1) (tVar 3)) (tSl (rSlL K) (tVar 1) tNoPart (tPart (tVar 3))))) (te := tOp (rIxL K) (tVar 1) (tVar 3)) rfl scF.nd (pi_range1 rfl mR (pa_cons pe_int pa_nil))
        (blkOk_by (N := ["_law_pen_here", "_law_some", "_law_rare", "_law_k"]) (sc := defScope sFew) (by decide +kernel))
        (fun _ _ _ _ _ => by exact (pg_name (i := 3) scF.nd rfl (Or.inl rfl)))
        (fun _ _ _ _ _ => by exact (pts_one (pt_cmpR op_notIn_seq (pe_ix ix_list (pv 1) (pv 3) (fun _ _ => rfl)) (pe_slice sl_list (pv 1) po_none (po_some (pv 3))) (by rfl))))
        (fun _ _ _ _ _ => by exact (pe_ix ix_list (pv 1) (pv 3) (fun _ _ => rfl))))))) (
      pss_one (by exact (ps_ret (pe_call M.ok hr2 rfl M.m M.k M.b .nil pass0 (pa_cons (pv 0) (pa_cons (pe_lst (pa_cons pe_str (pa_cons pe_str (pa_cons pe_str (pa_cons pe_str (pa_cons pe_str (pa_cons pe_str (pa_cons pe_str (pa_cons pe_str (pa_cons (pv 2) pa_nil)))))))))) pa_nil))))))), ?_⟩
    refine ⟨_, rfl, d, c, n, ns, _, rfl, pen, by omega, .inr ⟨_, rfl, (by show 0 < (Txt.replace sgsZ "q" "").length; rw [few_len]; decide), (by show (Txt.replace sgsZ "q" "").length < 1000000; rw [few_len]; decide), fun a H1 ha pen1 b1 => ?_⟩⟩
    refine ⟨_, rfl, d, c, n + 1, ns, _, rfl, pen1, by omega, .inr ⟨_, rfl, (by decide +kernel), (by decide +kernel), fun b H2 hb pen2 b2 => ?_⟩⟩
    refine ⟨_, rfl, d, c, n + 1 + 1, ns, _, rfl, pen2, by omega, .inr ⟨_, rfl, (by decide +kernel), (by decide +kernel), fun e H3 he pen3 b3 => ?_⟩⟩
    obtain ⟨lb, nb⟩ := yz_lets b hb
    have la := few_lets a ha
    have qa := few_nq a ha
    have qb := yz_nq b hb
    have le := par_is e he
    subst le
    refine ⟨(by show 3 ≤ sizeLine; decide), fun L nL => ?_⟩
    have bb : But d H (upd H3 L (.lst (cs [a, b, 40]))) := ((b1.trans b2).trans b3).trans (But.same (same_upd nL))
    have pen4 := pen3.keep (same_upd (o := .lst (cs [a, b, 40])) nL)
    have hL : (upd H3 L (.lst (cs [a, b, 40]))) L = some (.lst (cs [a, b, 40])) := upd_same
    refine ⟨⟨_, rfl⟩, ?_⟩
    refine ⟨3, rfl, by decide, by decide, fun D nD => ?_⟩
    have nLD : L ≠ D := ne_of_none hL nD
    obtain ⟨nDd, nDc⟩ := pen4.fresh nD
    have nH : H D = none := bb.none nDd nD
    have hb0 : ∀ i, i < 3 → ∃ x, [a, b, 40][i]? = some x := fun i hi => ⟨[a, b, 40][i], List.getElem?_eq_getElem hi⟩
    refine lc_range (fun i G => ∃ ds : List Nat, G D = some (.lst (cs ds)) ∧ ds.Nodup ∧ (∀ x, x ∈ ds ↔ x ∈ [a, b, 40].take i) ∧ ds.length ≤ i ∧ G L = some (.lst (cs [a, b, 40])) ∧ PenAt G d c (n + 1 + 1 + 1) ns ∧ But d H G)
      ⟨[], upd_same, List.nodup_nil, fun x => by simp, Nat.le_refl _, (same_upd nD) _ _ hL, pen4.keep (same_upd nD), bb.trans (But.same (same_upd nD))⟩ (fun i G hi p => ?_) (fun G p => ?_)
    · obtain ⟨ds, pD, nd, mem, len, pL, pP, pB⟩ := p
      obtain ⟨x, hx⟩ := hb0 i hi
      have hx' : (cs [a, b, 40])[i]? = some (V.str (sg x)) := by
        unfold cs
        rw [List.getElem?_map, hx]
        rfl
      refine ⟨rfl, ?_⟩
      refine ⟨_, rfl, _, rfl, L, _, _, _, rfl, rfl, SqL.of pL, (by rw [Int.zero_add]; exact atI_nat hx'), ?_⟩
      refine ⟨_, rfl, _, rfl, _, rfl, L, _, rfl, SqL.of pL, fun S nS => ?_⟩
      rw [Int.zero_add, cs_cut]
      refine ⟨S, cs ([a, b, 40].take i), rfl, .inl (SqL.of upd_same), rfl, cs_flat _, _, rfl, ?_⟩
      rw [if_pos rfl, cs_in]
      have sm := fun o => same_upd (o := o) nS
      have tk : [a, b, 40].take (i + 1) = [a, b, 40].take i ++ [x] := by rw [List.take_succ, hx]; rfl
      by_cases mx : x ∈ [a, b, 40].take i
      · rw [decide_eq_true mx]
        refine iteF ⟨ds, sm _ _ _ pD, nd, fun y => ?_, by omega, sm _ _ _ pL, pP.keep (sm _), pB.trans (But.same (sm _))⟩
        rw [mem, tk, List.mem_append, List.mem_singleton]
        exact ⟨.inl, fun h => h.elim id fun e => e ▸ mx⟩
      · rw [decide_eq_false mx]
        refine iteT ?_
        refine ⟨_, rfl, _, rfl, L, _, _, _, rfl, rfl, SqL.of (sm _ _ _ pL), (atI_nat hx'), ?_⟩
        refine ⟨_, sm _ _ _ pD, Nat.lt_of_le_of_lt (by unfold cs; rw [List.length_map]; omega : _ ≤ 3) (by decide), ds ++ [x], ?_, ?_, ?_, ?_, ?_, ?_, ?_⟩
        · unfold cs
          rw [List.map_append]
          exact upd_same
        · rw [List.nodup_append]
          refine ⟨nd, List.nodup_cons.mpr ⟨by simp, List.nodup_nil⟩, fun y hy z hz => ?_⟩
          rw [List.mem_singleton] at hz
          subst hz
          exact fun e => mx (e ▸ (mem y).mp hy)
        · intro y
          rw [List.mem_append, mem, tk, List.mem_append]
        · rw [List.length_append]
          exact Nat.add_le_add len (Nat.le_refl 1)
        · rw [upd_ne nLD]
          exact sm _ _ _ pL
        · exact (pP.keep (sm _)).put nDd nDc
        · exact (pB.trans (But.same (sm _))).put nH
    · obtain ⟨ds, pD, nd, mem, len, pL, pP, pB⟩ := p
      replace mem : ∀ x, x ∈ ds ↔ x ∈ [a, b, 40] := mem
      replace len : ds.length ≤ 3 := len
      have hl : 2 ≤ ds.length := by
        rcases ds with _ | ⟨x, _ | ⟨y, r⟩⟩
        · exact absurd ((mem 40).mpr (by simp)) (by simp)
        · have h1 := (mem 40).mpr (by simp)
          have h2 := (mem b).mpr (by simp)
          rw [List.mem_singleton] at h1 h2
          exact absurd (h2.trans h1.symm) nb
        · simp
      refine ⟨_, D, ds.map sg, rfl, rfl, .inl (by rw [← cs_strs]; exact SqL.of pD), (by rw [sum_sg, List.length_map]; show ds.length + ds.length * 0 ≤ 16777216; omega), ?_⟩
      have ej : cod (Txt.join "" (ds.map sg)) = ds := join_sg ds
      have sj : Sgn (Txt.join "" (ds.map sg)) := by
        refine ⟨?_, ?_, ?_, ?_, ?_⟩
        · rw [ej]
          intro x hx
          have h := (mem x).mp hx
          simp only [List.mem_cons, List.not_mem_nil, or_false] at h
          rcases h with rfl | rfl | rfl
          · exact la
          · exact lb
          · decide
        · rw [ej]
          exact nd
        · rw [← len_cod, ej]
          exact hl
        · rw [← len_cod, ej]
          exact len
        · rw [ej]
          intro x hx
          have h := (mem x).mp hx
          simp only [List.mem_cons, List.not_mem_nil, or_false] at h
          rcases h with rfl | rfl | rfl
          · exact qa
          · exact qb
          · decide
      generalize Txt.join "" (ds.map sg) = rare at sj
      refine ⟨_, rfl, _, rfl, (by show 9 ≤ sizeLine; decide), fun N nN => ?_⟩
      have sN := same_upd (o := .lst [.str "ab", .str "ab", .str "abc", .str "abc", .str "a ", .str "x~", .str "01", .str "\"\\", .str rare]) nN
      refine ⟨d, c, n + 1 + 1 + 1, ns, _, rfl, pP.keep sN, by omega, .inl ⟨N, _, rfl, upd_same, (by show 0 < 9; decide), (by show 9 < 1000000; decide), fun v H' hv pen5 b5 => ?_⟩⟩
      have hs : ∃ z, v = .str z ∧ Sgn z := by
        simp only [List.mem_cons, List.not_mem_nil, or_false] at hv
        rcases hv with rfl | rfl | rfl | rfl | rfl | rfl | rfl | rfl | rfl
        all_goals first | exact ⟨_, rfl, sj⟩ | exact ⟨_, rfl, sgn_some _ (by simp)⟩
      obtain ⟨z, rfl, sz⟩ := hs
      exact k z H' sz (by have e : n + 1 + 1 + 1 + 1 = n + 4 := by omega
                          rw [← e]; exact pen5) ((pB.trans (But.same sN)).trans b5)
/-- row: a line of the letters -/
def spRow : Sp := fun vs H Q _ => ∃ (d c : Addr) (n : Int) (ns : List Int) (z : Str) (a b : Int), vs = [.ref d, .str z, .int a, .int b] ∧ PenAt H d c n ns ∧ n + 1 + b < 1000000 ∧ 0 < z.length ∧ z.length < 1000000 ∧ 0 ≤ a ∧ a ≤ b ∧
  ∀ (y : Str) (H' : Hp), (∀ c ∈ cod y, c ∈ cod z) → a ≤ y.length → (y.length : Int) ≤ b → PenAt H' d c (n + 1 + b) ns → But d H H' → Q (.str y) H'
theorem scR : FnScope ["_law_pen_here", "_law_signs_here", "_law_least", "_law_most_letters", "_law_span", "_law_k"] ["_law_pen_here", "_law_signs_here", "_law_least", "_law_most_letters"] (defScope sRow) := ⟨rfl, rfl, rfl, by decide +kernel, rfl, by decide +kernel, by decide +kernel⟩
theorem ok_row {f fD fP : Addr} {fd fdD fdP : FuncData} (F : Fun K "_law_row" "_law_row" sRow f fd) (T : Txt mg) (mR : mg "range" = none) (M : PickAt P w K mg base fP fdP) (GD : FnOk P w K mg base CX0 1 fD fdD ["_law_pen_here", "_law_span"] spDraw) (mD : mg "_law_draw" = some (.ref fD)) (kD : PySem.W.keepIn K (.ref fD) = true) (bD : Binds K fdD ["_law_pen_here", "_law_span"] []) :
    FnOk P w K mg base CX0 3 f fd ["_law_pen_here", "_law_signs_here", "_law_least", "_law_most_letters"] spRow := by
  refine F.ok scR (fun vs H Q E h => ?_) (fun cdv A outer s H vs Q E hr h => ?_)
  · obtain ⟨d, c, n, ns, z, a, b, rfl, _⟩ := h
    rfl
  · obtain ⟨d, c, n, ns, z, a, b, rfl, pen, hn, z0, z1, ha, hb, k⟩ := h
    have hr2 : Room 2 _ := hr.mono (by decide)
    have hr1 : Room 1 _ := hr.mono (by decide)
    refine ⟨_, pss_cons (by exact (ps_set (i := 4) scR.nd rfl (.inl rfl) (pe_op op_add (pv 2) (pe_call GD hr1 rfl mD kD bD .nil pass0 (pa_cons (pv 0) (pa_cons (pe_op op_add (pe_op op_sub (pv 3) (pv 2)) pe_int) pa_nil)))))) (
      pss_one (by exact (ps_ret (pe_join pe_str (pe_lc (own := [("_law_k", 5)]) (g := gName 5) (tt := tYes) (te := tCall spPick [] (fun _ _ _ => False) (tCons (tVar 0) (tCons (tVar 1) tNil))) rfl scR.nd (pi_range1 rfl mR (pa_cons (pv 4) pa_nil))
        (blkOk_by (N := ["_law_pen_here", "_law_signs_here", "_law_least", "_law_most_letters", "_law_span", "_law_k"]) (sc := defScope sRow) (by decide +kernel))
        (fun _ _ _ _ _ => by exact (pg_name (i := 5) scR.nd rfl (Or.inl rfl)))
        (fun _ _ _ _ _ => by exact pts_nil)
        (fun _ _ _ _ _ => by exact (pe_call M.ok hr2 rfl M.m M.k M.b .nil pass0 (pa_cons (pv 0) (pa_cons (pv 1) pa_nil))))))))), ?_⟩
    refine ⟨_, rfl, _, rfl, _, rfl, _, rfl, _, _, rfl, rfl, _, _, rfl, rfl, ?_⟩
    have n0 := pen.n0
    refine ⟨d, c, n, ns, _, rfl, pen, by omega, by omega, by omega, fun r H1 r0 r1 pen1 b1 => ?_⟩
    refine ⟨_, _, rfl, rfl, ⟨_, rfl⟩, ?_⟩
    refine ⟨_, rfl, a + r, rfl, by omega, by omega, fun D nD => ?_⟩
    obtain ⟨nDd, nDc⟩ := pen1.fresh nD
    have nH : H D = none := b1.none nDd nD
    refine lc_range (fun i G => ∃ ds : List Nat, G D = some (.lst (cs ds)) ∧ (∀ x ∈ ds, x ∈ cod z) ∧ ds.length = i ∧ PenAt G d c (n + 1 + i) ns ∧ But d H G)
      ⟨[], upd_same, (fun x hx => absurd hx (by simp)), rfl, (show PenAt _ d c (n + 1 + (0 : Int)) ns from (Int.add_zero (n + 1)).symm ▸ pen1.put nDd nDc), b1.put nH⟩ (fun i G hi p => ?_) (fun G p => ?_)
    · obtain ⟨ds, pD, mem, len, pP, pB⟩ := p
      refine ⟨rfl, ?_⟩
      dsimp only [tYes]
      rw [if_pos rfl]
      refine ⟨_, rfl, _, rfl, d, c, n + 1 + i, ns, _, rfl, pP, by omega, .inr ⟨z, rfl, z0, z1, fun x G1 hx pP1 b2 => ?_⟩⟩
      refine ⟨_, b2 _ _ pD nDd, Nat.lt_of_le_of_lt (by unfold cs; rw [List.length_map]; omega : _ ≤ 1000000) (by decide), ds ++ [x], ?_, ?_, ?_, ?_, ?_⟩
      · unfold cs
        rw [List.map_append]
        exact upd_same
      · intro y hy
        rcases List.mem_append.mp hy with h | h
        · exact mem y h
        · rw [List.mem_singleton] at h
          exact h ▸ hx
      · rw [List.length_append, len]
        rfl
      · have e : n + 1 + ((i + 1 : Nat) : Int) = n + 1 + i + 1 := by omega
        rw [e]
        exact pP1.put nDd nDc
      · exact (pB.trans b2).put nH
    · obtain ⟨ds, pD, mem, len, pP, pB⟩ := p
      replace len : ds.length = (a + r).toNat := len
      refine ⟨_, D, ds.map sg, rfl, rfl, .inl (by rw [← cs_strs]; exact SqL.of pD), (by rw [sum_sg, List.length_map]; show ds.length + ds.length * 0 ≤ 16777216; omega), ?_⟩
      have ej : cod (Txt.join "" (ds.map sg)) = ds := join_sg ds
      have el : (Txt.join "" (ds.map sg)).length = (a + r).toNat := by rw [← len_cod, ej, len]
      refine k _ _ (by rw [ej]; exact mem) (by rw [el]; omega) (by rw [el]; omega) ?_ pB
      obtain ⟨kvs, t', l', q⟩ := pP
      exact q.more (by show n + 1 + (((a + r).toNat : Nat) : Int) ≤ _; omega)
end
end LA
end
section
set_option Elab.async false
set_option linter.all false
set_option maxRecDepth 100000
set_option maxHeartbeats 4100000
namespace XT
open PySem PySem.Spec PyProof.Rows L2
/-! ### max of a list of ints, with what stands for none -/
section
variable {prog : Program} {w : World} {A : Around} {R : Result → Shared → Prop} {I S : Addr} {fp wr : List Addr} {n : Nat} {P : Nat → Value → Prop} {St : Nat → Heap → Prop} {bt : Nat → Nat → Bool} {d : Value}
def heldBy : Option Value → Array Value
  | none => #[]
  | some v => #[v, v]
def BestOf (P : Nat → Value → Prop) (bt : Nat → Nat → Bool) (d : Value) (n : Nat) (v : Value) : Prop := (n = 0 ∧ v = d) ∨ (0 < n ∧ P (argBest bt (n - 1)) v)
def Have (P : Nat → Value → Prop) (bt : Nat → Nat → Bool) (i : Nat) : Option Value → Prop
  | none => i = 0
  | some v => 0 < i ∧ P (argBest bt (i - 1)) v
theorem max_turns (W : Walks prog w A.in1 I fp wr n P St) (C : CmpOf prog w A.in1 .Gt P bt) (nS : S ∉ fp) : ∀ (k i : Nat) (s : Shared) (b : Option Value) (c : Nat), n = i + k → St i s.heap → Have P bt i b →
    s.heap.get? S = some { cls := .type "list", data := .seq (heldBy b) c } →
    (∀ v h' tk, BestOf P bt d n v → (∀ x o, x ∉ wr → x ≠ S → s.heap.get? x = some o → h'.get? x = some o) → R (.ok (.ret v)) { s with heap := h', toks := tk }) →
    codeAny (model prog w) A (.builtin "max.loop" ⟨[.ref I, .none, .ref S], [("default", d)]⟩) R s := by
  have nW : S ∉ wr := fun h => nS (W.sub _ h)
  intro k
  induction k with
  | zero =>
    intro i s b c e st hb hS q
    obtain rfl : n = i := e
    refine codeAny_builtin
          F.entry_max_loop ?_
    rw [Around.under_plainId
          F.plain_max_loop _]
    show wpAny _ _ (seqItems? (.ref S) >>= _) _ _ s
    refine wpAny_bind
          (wpAny_seqItems hS rfl ?_)
    show wpAny _ _ (tryCatch (pyNext (.ref I)) _ >>= _) _ _ s
    refine wpAny_bind (wpAny_tryCatch (W.done s _ _ st fun h' tk keep => ?_))
    cases b with
    | none =>
      obtain rfl : n = 0 := hb
      show wpAny _ _ (rule _ >>= _) _ _ _
      exact wpAny_bind (wpAny_rule (wpAny_pure (q d h' tk (.inl ⟨rfl, rfl⟩) fun x o h1 _ h3 => keep x o h1 h3)))
    | some v =>
      have hS2 := keep S _ nW hS
      show wpAny _ _ (updateSeq S (fun _ => #[]) >>= _) _ _ _
      refine wpAny_bind (wpAny_updateSeq hS2 rfl (wpAny_bind (wpAny_letGo (wpAny_pure ?_))) (hz := by show 2 ≤ sizeLine; decide))
      exact q v _ tk (.inr hb) fun x o h1 h2 h3 => (Heap.get?_update_other _ _ h2.symm).trans (keep x o h1 h3)
  | succ k ih =>
    intro i s b c e st hb hS q
    have lt : i < n := by omega
    have name : (toString "max" ++ toString ".loop" : String) = "max.loop" := by decide
    refine codeAny_builtin
          F.entry_max_loop ?_
    rw [Around.under_plainId
          F.plain_max_loop _]
    show wpAny _ _ (seqItems? (.ref S) >>= _) _ _ s
    refine wpAny_bind
          (wpAny_seqItems hS rfl ?_)
    show wpAny _ _ (tryCatch (pyNext (.ref I)) _ >>= _) _ _ s
    refine wpAny_bind (wpAny_tryCatch (W.item i s _ _ lt st fun v h' tk hv st2 keep => ?_))
    have hS2 := keep S _ nW hS
    have put : ∀ (x : Array Value), St (i + 1) (h'.update S (Obj.mapSeq fun _ => x)) := fun x => W.frame _ _ _ st2 fun y hy o ey => (Heap.get?_update_other _ _ (fun h : S = y => nS (h ▸ hy))).trans ey
    have old : ∀ (x : Array Value) (y : Addr) (o : Obj), y ∉ wr → y ≠ S → s.heap.get? y = some o → (h'.update S (Obj.mapSeq fun _ => x)).get? y = some o := fun x y o h1 h2 h3 => (Heap.get?_update_other _ _ h2.symm).trans (keep y o h1 h3)
    cases b with
    | none =>
      obtain rfl : i = 0 := hb
      show wpAny _ _ (updateSeq S (fun _ => #[v, v]) >>= _) _ _ _
      refine wpAny_bind
            (wpAny_updateSeq hS2 rfl ?_)
      rw [name]
      refine wpAny_pure ⟨plainId_quiet F.plain_max_loop _, ih 1 _ (some v) _ (by omega) (put _) ⟨Nat.one_pos, hv⟩ (Heap.get?_update_self _ hS2 rfl) fun z h2 t2 hz k2 => ?_⟩
      exact q z h2 t2 hz fun y o h1 h3 h4 => k2 y o h1 h3 (old _ y o h1 h3 h4)
    | some u =>
      obtain ⟨ip, hu⟩ := hb
      show wpAny _ _ (tryCatch (holding [v, v] (richCompare .Gt v u >>= _)) _ >>= _) _ _ _
      refine wpAny_bind (wpAny_tryCatch (wpAny_holding (wpAny_bind (C i (argBest bt (i - 1)) v u _ _ _ hv hu ?_))))
      refine wpAny_bind (wpAny_holding
            (wpAny_truthy_bool ?_))
      refine wpAny_bind
            (wpAny_letGo (wpAny_pure ?_))
      have step : argBest bt i = if bt i (argBest bt (i - 1)) then i else argBest bt (i - 1) := by
        cases i with
        | zero => exact absurd ip (Nat.lt_irrefl 0)
        | succ j => rfl
      cases hc : bt i (argBest bt (i - 1)) with
      | true =>
        rw [hc, if_pos rfl] at step
        simp only [if_true]
        refine wpAny_bind (wpAny_updateSeq hS2 rfl (wpAny_bind (wpAny_letGo ?_)) (hz := by show 2 ≤ sizeLine; decide))
        rw [name]
        refine wpAny_pure ⟨plainId_quiet F.plain_max_loop _, ih (i + 1) _ (some v) _ (by omega) (put _) ⟨Nat.succ_pos _, by rw [Nat.add_sub_cancel, step]; exact hv⟩ (Heap.get?_update_self _ hS2 rfl) fun z h2 t2 hz k2 => ?_⟩
        exact q z h2 t2 hz fun y o h1 h3 h4 => k2 y o h1 h3 (old _ y o h1 h3 h4)
      | false =>
        rw [hc, if_neg (by decide)] at step
        simp only [Bool.false_eq_true,
              if_false]
        refine wpAny_bind
              (wpAny_letGo ?_)
        rw [name]
        refine wpAny_pure ⟨plainId_quiet F.plain_max_loop _, ih (i + 1) _ (some u) c (by omega) st2 ⟨Nat.succ_pos _, by rw [Nat.add_sub_cancel, step]; exact hu⟩ hS2 fun z h2 t2 hz k2 => ?_⟩
        exact q z h2 t2 hz fun y o h1 h3 h4 => k2 y o h1 h3 (keep y o h1 h4)
end
section
variable {prog : Program} {w : World} {A : Around} {E : Value → Shared → Prop} {s : Shared} {l : Addr} {its : List Value} {ns : List Int} {Q : Value → Shared → Prop} {d : Value}
/-- a built-in function by keywords that goes on in a loop of its own -/
theorem call_goes {id : String} {b : Builtin} {args : List Value} {kw : List (Str × Value)} (hk : builtinKind id = none) (hp : plainId id = true) (hb : entryFor table id = some b) (ha : argsOk id ⟨args, kw⟩)
    (hc : wpAny (model prog w) A.in1 (b ⟨args, kw⟩) (fun fin s' => ∃ c, fin = .again c ∧ c.quiet = true ∧ codeAny (model prog w) A c (fun r s₁ => ∃ v, r = .ok (.ret v) ∧ Q v s₁) s') E s) :
    wpAny (model prog w) A (call
          (.builtin id) args kw) Q E s := by
  refine wpAny_call
        (codeAny_call_builtin hp hb ?_)
  have go : wpAny (model prog w) A.in1 (b ⟨args, kw⟩) (fun fin s' => match fin with
      | .done f => (match (Except.ok f : Result) with
        | .ok (.ret v) => Q v s'
        | .ok _ => False
        | .error e => E e s')
      | .again c' => c'.quiet = true ∧ codeAny (model prog w) A c' (fun r s' => match r with | .ok (.ret v) => Q v s' | .ok _ => False | .error e => E e s') s') E s := by
    refine wpAny_mono hc (fun fin s' q => ?_) fun _ _ e => e
    obtain ⟨c, rfl, q1, q2⟩ := q
    refine ⟨q1, codeAny_mono q2 fun r s1 q3 => ?_⟩
    obtain ⟨v, rfl, q4⟩ := q3
    exact q4
  simp only
        [checkBuiltinCall, hk]
  cases sg : Manifest.signature? id with
  | none => exact wpAny_pure go
  | some y =>
    have ok : Bind.checkArgs id y ⟨args, kw⟩ = pure () := by simpa only [argsOk, sg] using ha
    simp only [ok]
    exact wpAny_pure go
theorem max_dflt (hh : A.handled = none) (hl : s.heap.IsList l its.toArray) (hi : IntsAre its ns)
    (h : ∀ h' tk v, (∀ b o, s.heap.get? b = some o → h'.get? b = some o) → (ns = [] ∧ v = d) ∨ (∃ M t, v = .int M t ∧ M ∈ ns ∧ ∀ a ∈ ns, a ≤ M) → Q v { s with heap := h', toks := tk }) : wpAny (model prog w) A (call (.builtin "max") [.ref l] [("default", d)]) Q E s := by
  obtain ⟨xs, e⟩ :=
        hi.allInts.items
  have hn : numsOf (intItems xs).toList
        = ns := by rw [← e]; exact hi.numsOf
  rw [nums_intItems] at hn
  subst hn
  rw [e] at hl
  have name : (toString "max" ++ toString ".loop" : String) = "max.loop" := by decide
  have okA : argsOk "max" ⟨[.ref l], [("default", d)]⟩ := by unfold argsOk; kernel_rfl
  refine call_goes F.kind_max F.plain_max F.entry_max okA ?_
  show wpAny _ A.in1 (Builtin.Builtins.bindParams "max" ["key", "default"] 0 ⟨[], [("default", d)]⟩ >>= _) _ _ s
  refine wpAny_bind (wpAny_of_eq (show Builtin.Builtins.bindParams "max" ["key", "default"] 0 ⟨[], [("default", d)]⟩ = pure [none, some d] from rfl) ?_)
  refine wpAny_bind
        (wpAny_pure ?_)
  refine wpAny_bind (iter_intList hl fun s2 e st fp ne => ?_)
  subst e
  refine wpAny_bind
        (wpAny_newObj_type ?_)
  rw [name]
  have W := Walks.list (prog := prog) (w := w) (A := A.in1) (by exact hh) s.heap.objs.size l ne (intItems xs)
  refine wpAny_pure ⟨_, rfl, plainId_quiet F.plain_max_loop _, ?_⟩
  refine max_turns (d := d) W (CmpOf.ints_gt (numAt xs) fun _ _ => intItems_at) (fun z => Nat.lt_irrefl _ (fp _ z)) _ 0 _ none _ (by rw [Nat.zero_add]) (W.frame _ _ _ st fun b _ o e => Heap.get?_push_of_some _ e) rfl (Heap.get?_push_size _ rfl) fun v h' tk hv keep => ⟨v, rfl, ?_⟩
  refine h h' tk v (fun b o e => ?_) ?_
  · have lt := Heap.lt_size e
    refine keep b o (fun z => ?_) (fun z => ?_) (Heap.get?_push_of_some _ (Heap.get?_push_of_some _ e))
    · exact Nat.ne_of_lt lt (List.mem_singleton.mp z)
    · subst z
      rw [Heap.size_push] at lt
      exact Nat.lt_irrefl _ (Nat.lt_of_succ_lt lt)
  · rcases hv with ⟨n0, rfl⟩ | ⟨np, hv⟩
    · left
      refine ⟨?_, rfl⟩
      have z : xs.size = 0 := by simpa [intItems] using n0
      rw [Array.eq_empty_of_size_eq_zero z]
      rfl
    · right
      obtain ⟨t, rfl⟩
            := intItems_at hv
      have np' : 0 < xs.size := by simpa [intItems] using np
      have e : (intItems xs).size = xs.size := by simp [intItems]
      rw [e]
      obtain ⟨h1, h2⟩ := argBest_gt
            (numAt xs) (xs.size - 1)
      refine ⟨_, t, rfl, ?_, fun a ha => ?_⟩
      · rw [numAt_eq]
        exact PySem.getD_mem (by rw [List.length_map, Array.length_toList]; omega)
      · obtain ⟨j, hj,
            rfl⟩ := mem_getD ha
        rw [List.length_map,
              Array.length_toList] at hj
        rw [← numAt_eq]
        exact h2 j (by omega)
end
section
variable {X : Cx}
/-- max(xs, default=v) of a list of ints: the reading -/
def rMaxOr (K : PySem.W.Frag) : List V → List V → Hp → VK → Prop := fun vs zs H Q => ∃ (a : Addr) (ns : List Int) (i : Int), vs = [V.ref a] ∧ zs = [V.int i] ∧ SqL K H a (ns.map V.int) ∧ ∀ m : Int, (ns = [] ∧ m = i) ∨ (m ∈ ns ∧ ∀ y ∈ ns, y ≤ m) → Q (.int m) H
theorem cr_maxOr (hc : X.calm = true) : CallRK X (.builtin "max") ["default"] (rMaxOr X.K) := by
  intro pins s σ H vs zs us ws Q I r r2 h
  obtain ⟨a, ns, i, rfl, rfl, hs, q⟩ := h
  obtain ⟨its, rv,
        hl, _⟩ := I.list hs
  rw [Vals.ref1 r]
  obtain ⟨u, rfl, t, rfl⟩ := vals1 r2
  refine max_dflt (I.ok.hd hc) hl.isList rv.ints fun h' tk v keep hv => ?_
  rcases hv with ⟨e, rfl⟩ | ⟨M, t2, rfl, h1, h2⟩
  · exact ⟨.int i, H, I.kept keep, ⟨_, rfl⟩, q i (.inl ⟨e, rfl⟩)⟩
  · exact ⟨.int M, H, I.kept keep, ⟨_, rfl⟩, q M (.inr ⟨h1, h2⟩)⟩
/-- any of several readings -/
theorem pe_ex {ι : Sort _} {e : Expr} {t : ι → TE} (h : ∀ i, PE X e (t i)) : PE X e (fun σ H Q => ∃ i, t i σ H Q) :=
  ⟨fun pins s σ H Q I ⟨i, q⟩ => (h i).run pins s σ H Q I q⟩
end
end XT
end
section
set_option Elab.async false
set_option linter.all false
set_option maxRecDepth 100000
set_option maxHeartbeats 4100000
namespace XT
open PySem PySem.Spec PyProof.Rows L2
/-! ### sum of lists, from a list on -/
def lsO (xs : List Value) (c : Nat) : Obj := { cls := .type "list", data := .seq xs.toArray c }
def restOf (L : Nat → List Value) : Nat → Nat → List Value
  | _, 0 => []
  | i, k + 1 => L i ++ restOf L (i + 1) k
section
variable {prog : Program} {w : World} {A : Around} {R : Result → Shared → Prop} {I S : Addr} {fp wr : List Addr} {n : Nat} {P : Nat → Value → Prop} {St : Nat → Heap → Prop}
theorem sum_turns (W : Walks prog w A.in1 I fp wr n P St) (nS : S ∉ fp) (wS : ∀ b ∈ wr, b < S) (B : Nat → Addr) (L : Nat → List Value) (isB : ∀ i v, P i v → v = .ref (B i)) (nB : ∀ i, i < n → B i ∉ wr ∧ B i ≠ S) :
    ∀ (k i : Nat) (s : Shared) (t : Addr) (cur : List Value) (c c1 : Nat), n = i + k → St i s.heap → (∀ j, j < n → ∃ c, s.heap.get? (B j) = some (lsO (L j) c)) →
    s.heap.get? S = some (lsO [.ref t] c) → s.heap.get? t = some (lsO cur c1) → t ≠ S → t ∉ wr → cur.length + (restOf L i k).length ≤ sizeLine →
    (∀ h' tk t' c', h'.get? t' = some (lsO (cur ++ restOf L i k) c') → (S < t ∨ 0 < k → S < t') → (∀ x o, x ∉ wr → x ≠ S → s.heap.get? x = some o → h'.get? x = some o) → R (.ok (.ret (.ref t'))) { s with heap := h', toks := tk }) →
    codeAny (model prog w) A (.builtin "sum.loop" ⟨[.ref I, .ref S, rawInt 2, rawInt 0], []⟩) R s := by
  have nW : S ∉ wr := fun h => nS (W.sub _ h)
  intro k
  induction k with
  | zero =>
    intro i s t cur c c1 e st ls hS ht tS tw fit q
    obtain rfl : n = i := e
    refine codeAny_builtin
          F.entry_sum_loop ?_
    rw [Around.under_plainId
          F.plain_sum_loop _]
    show wpAny _ _ (seqItems? (.ref S) >>= _) _ _ s
    refine wpAny_bind
          (wpAny_seqItems hS rfl ?_)
    show wpAny _ _ (tryCatch (pyNext (.ref I)) _ >>= _) _ _ s
    refine wpAny_bind (wpAny_tryCatch (W.done s _ _ st fun h' tk keep => ?_))
    exact wpAny_pure (q h' tk t c1 (by show _ = some (lsO (cur ++ []) _); rw [List.append_nil]; exact keep t _ tw ht) (fun z => z.elim id fun y => absurd y (Nat.lt_irrefl 0)) fun x o h1 _ h3 => keep x o h1 h3)
  | succ k ih =>
    intro i s t cur c c1 e st ls hS ht tS tw fit q
    have lt : i < n := by omega
    have eR : restOf L i (k + 1) = L i ++ restOf L (i + 1) k := rfl
    rw [eR, List.length_append] at fit
    refine codeAny_builtin
          F.entry_sum_loop ?_
    rw [Around.under_plainId
          F.plain_sum_loop _]
    show wpAny _ _ (seqItems? (.ref S) >>= _) _ _ s
    refine wpAny_bind
          (wpAny_seqItems hS rfl ?_)
    show wpAny _ _ (tryCatch (pyNext (.ref I)) _ >>= _) _ _ s
    refine wpAny_bind (wpAny_tryCatch (W.item i s _ _ lt st fun v h' tk hv st2 keep => ?_))
    obtain rfl := isB i v hv
    obtain ⟨nb1, nb2⟩ := nB i lt
    obtain ⟨cb, hb⟩ := ls i lt
    have hS2 := keep S _ nW hS
    have ht2 := keep t _ tw ht
    have hb2 := keep _ _ nb1 hb
    show wpAny _ _ (Sem.attempt (holding [.ref (B i)] (binaryOp .Add (.ref t) (.ref (B i)))) >>= _) _ _ _
    refine wpAny_bind (wpAny_attempt (wpAny_holding (PySem.P.add_list ht2 hb2 ?_ (by simp only [List.size_toArray]; omega))))
    have eA : cur.toArray ++ (L i).toArray = (cur ++ L i).toArray := by simp
    rw [eA]
    have big : ∀ x o, h'.get? x = some o → (h'.push (lsO (cur ++ L i) 0)).get? x = some o := fun x o e => Heap.get?_push_of_some _ e
    have lS : S < h'.objs.size := Heap.lt_size hS2
    have hS3 := big S _ hS2
    show wpAny _ _ (updateSeq S (fun _ => #[.ref h'.objs.size]) >>= _) _ _ _
    refine wpAny_bind (wpAny_updateSeq hS3 rfl (wpAny_bind (wpAny_letGo ?_)))
    have hS4 := Heap.get?_update_self (Obj.mapSeq fun _ => #[Value.ref h'.objs.size]) hS3 rfl
    show wpAny _ _ (updateSeq S (fun _ => #[.ref h'.objs.size]) >>= _) _ _ _
    refine wpAny_bind (wpAny_updateSeq hS4 rfl ?_)
    have hS5 := Heap.get?_update_self (Obj.mapSeq fun _ => #[Value.ref h'.objs.size]) hS4 rfl
    have far : ∀ x o, x ≠ S → h'.get? x = some o → (((h'.push (lsO (cur ++ L i) 0)).update S (Obj.mapSeq fun _ => #[Value.ref h'.objs.size])).update S (Obj.mapSeq fun _ => #[Value.ref h'.objs.size])).get? x = some o :=
      fun x o h1 h2 => (Heap.get?_update_other _ _ h1.symm).trans ((Heap.get?_update_other _ _ h1.symm).trans (big x o h2))
    have nn : h'.objs.size ≠ S := (Nat.ne_of_lt lS).symm
    have hn : (((h'.push (lsO (cur ++ L i) 0)).update S (Obj.mapSeq fun _ => #[Value.ref h'.objs.size])).update S (Obj.mapSeq fun _ => #[Value.ref h'.objs.size])).get? h'.objs.size = some (lsO (cur ++ L i) 0) :=
      (Heap.get?_update_other _ _ nn.symm).trans ((Heap.get?_update_other _ _ nn.symm).trans (Heap.get?_push_size _ rfl))
    refine wpAny_pure ⟨plainId_quiet F.plain_sum_loop _, ?_⟩
    refine ih (i + 1) { s with heap := ((h'.push (lsO (cur ++ L i) 0)).update S (Obj.mapSeq fun _ => #[Value.ref h'.objs.size])).update S (Obj.mapSeq fun _ => #[Value.ref h'.objs.size]), toks := tk } h'.objs.size (cur ++ L i) _ 0 (by omega) (W.frame _ _ _ st2 fun y hy o ey => far y o (fun z => nS (z ▸ hy)) ey) (fun j hj => ?_) hS5 hn nn ?_ (by rw [List.length_append]; omega) fun h2 t2 u c2 e1 e2 e3 => ?_
    · obtain ⟨cj, hj2⟩ := ls j hj
      obtain ⟨m1, m2⟩ := nB j hj
      exact ⟨cj, far _ _ m2 (keep _ _ m1 hj2)⟩
    · exact fun z => Nat.lt_irrefl _ (Nat.lt_trans lS (wS _ z))
    · refine q h2 t2 u c2 ?_ (fun _ => e2 (.inl lS)) fun x o h1 h3 h4 => e3 x o h1 h3 (far x o h3 (keep x o h1 h4))
      rw [eR, ← List.append_assoc]
      exact e1
end
section
variable {prog : Program} {w : World} {A : Around} {E : Value → Shared → Prop} {s : Shared} {l b : Addr} {items : Array Value} {Q : Value → Shared → Prop} {cur : List Value} {cb : Nat}
theorem sum_lists (hh : A.handled = none) (hl : s.heap.IsList l items) (B : Nat → Addr) (L : Nat → List Value) (hB : ∀ i, i < items.size → items[i]? = some (.ref (B i))) (hL : ∀ i, i < items.size → ∃ c, s.heap.get? (B i) = some (lsO (L i) c))
    (hb : s.heap.get? b = some (lsO cur cb)) (np : 0 < items.size) (fit : cur.length + (restOf L 0 items.size).length ≤ sizeLine)
    (h : ∀ h' tk t' c', h'.get? t' = some (lsO (cur ++ restOf L 0 items.size) c') → s.heap.objs.size ≤ t' → (∀ x o, s.heap.get? x = some o → h'.get? x = some o) → Q (.ref t') { s with heap := h', toks := tk }) :
    wpAny (model prog w) A (call (.builtin "sum") [.ref l, .ref b] []) Q E s := by
  have okA : argsOk "sum" ⟨[.ref l, .ref b], []⟩ := by unfold argsOk; kernel_rfl
  have ll := Heap.lt_size hl.choose_spec.1
  have lb := Heap.lt_size hb
  refine call_goes F.kind_sum F.plain_sum F.entry_sum okA ?_
  unfold Builtin.«sum»
  simp only [List.length_cons,
        List.length_nil]
  rw [if_neg (by decide)]
  refine wpAny_bind (wpAny_of_eq (show Builtin.Builtins.bindParams "sum" ["start"] 0 { pos := [Value.ref b] } = pure [some (.ref b)] from rfl) ?_)
  refine wpAny_bind
        (wpAny_pyIter_list hl ?_)
  refine wpAny_bind
        (wpAny_pure ?_)
  have hb2 : (s.heap.push { cls := .type "list_iterator", data := .fields #[.ref l, .int 0 0] }).get? b = some (lsO cur cb) := Heap.get?_push_of_some _ hb
  have ty : Shared.TypeIs { s with heap := s.heap.push { cls := .type "list_iterator", data := .fields #[.ref l, .int 0 0] } } (.ref b) "list" := ⟨_, hb2, rfl⟩
  simp only [List.forIn_cons,
        List.forIn_nil]
  refine wpAny_bind (wpAny_bind (wpAny_bind (wpAny_isInstance (T := "list") (b := false) ty PySem.F.sub_list_str ?_)))
  simp only [Bool.false_eq_true,
        if_false]
  refine wpAny_pure (wpAny_bind (wpAny_bind (wpAny_isInstance (T := "list") (b := false) ty PySem.F.sub_list_bytes ?_)))
  simp only [Bool.false_eq_true,
        if_false]
  refine wpAny_pure (wpAny_bind (wpAny_bind (wpAny_isInstance (T := "list") (b := false) ty PySem.F.sub_list_bytearray ?_)))
  simp only [Bool.false_eq_true,
        if_false]
  refine wpAny_pure
        (wpAny_pure ?_)
  refine wpAny_bind
        (wpAny_newObj_type ?_)
  have eS : (s.heap.push { cls := .type "list_iterator", data := .fields #[.ref l, .int 0 0] }).objs.size = s.heap.objs.size + 1 := Heap.size_push _ _
  have old : ∀ x o, s.heap.get? x = some o → ((s.heap.push { cls := .type "list_iterator", data := .fields #[.ref l, .int 0 0] }).push { cls := .type "list", data := .seq #[.ref b] }).get? x = some o := fun x o e => Heap.get?_push_of_some _ (Heap.get?_push_of_some _ e)
  have W := Walks.list (prog := prog) (w := w) (A := A.in1) (by exact hh) s.heap.objs.size l (Nat.ne_of_lt ll) items
  rw [eS]
  refine wpAny_pure ⟨_, rfl, plainId_quiet F.plain_sum_loop _, ?_⟩
  refine sum_turns W (S := s.heap.objs.size + 1) (fun z => ?_) (fun x z => ?_) B L (fun i v hv => ?_) (fun i hi => ?_) items.size 0 { s with heap := (s.heap.push { cls := .type "list_iterator", data := .fields #[.ref l, .int 0 0] }).push { cls := .type "list", data := .seq #[.ref b] } } b cur 0 cb (by rw [Nat.zero_add]) ⟨?_, hl.at fun o e => old _ _ e⟩ (fun j hj => ?_) ?_ (old _ _ hb) ?_ ?_ fit fun h' tk t' c' e1 e2 e3 => ⟨_, rfl, ?_⟩
  · rcases List.mem_cons.mp z with e | e
    · exact Nat.succ_ne_self _ e
    · have e2 := List.mem_singleton.mp e
      rw [← e2] at ll
      exact Nat.lt_irrefl _ (Nat.lt_of_succ_lt ll)
  · rw [List.mem_singleton.mp
        z]
    exact Nat.lt_succ_self _
  · have z : i < items.size := (Array.getElem?_eq_some_iff.mp hv).1
    exact Option.some.inj (hv.symm.trans (hB i z))
  · obtain ⟨c, e⟩ := hL i hi
    have z := Heap.lt_size e
    exact ⟨fun y => Nat.ne_of_lt z (List.mem_singleton.mp y), Nat.ne_of_lt (Nat.lt_succ_of_lt z)⟩
  · exact ⟨_, Heap.get?_push_of_some _ (Heap.get?_push_size _ rfl), rfl, rfl⟩
  · obtain ⟨c, e⟩ := hL j hj
    exact ⟨c, old _ _ e⟩
  · rw [← eS]
    exact
          Heap.get?_push_size _ rfl
  · exact Nat.ne_of_lt (Nat.lt_succ_of_lt lb)
  · exact fun y => Nat.ne_of_lt lb (List.mem_singleton.mp y)
  · refine h h' tk t' c' e1 (Nat.le_of_lt (Nat.lt_trans (Nat.lt_succ_self _) (e2 (.inr np)))) fun x o e => ?_
    have z := Heap.lt_size e
    exact e3 x o (fun y => Nat.ne_of_lt z (List.mem_singleton.mp y)) (Nat.ne_of_lt (Nat.lt_succ_of_lt z)) (old x o e)
end
theorem rest_vals {L : Nat → List Value} : ∀ (ps : List (Addr × List V)) (i : Nat), (∀ j p, ps[j]? = some p → Vals p.2 (L (i + j))) → Vals (ps.map (·.2)).flatten (restOf L i ps.length)
  | [], _, _ => .nil
  | p :: r, i, h => by
    show Vals (p.2 ++ (r.map (·.2)).flatten) (L i ++ restOf L (i + 1) r.length)
    refine Vals.append (h 0 p rfl) (rest_vals r (i + 1) fun j q e => ?_)
    have z := h (j + 1) q (by rw [List.getElem?_cons_succ]; exact e)
    rw [Nat.add_assoc, Nat.add_comm 1 j]
    exact z
section
variable {X : Cx}
/-- sum(lists, list): one list or more, each on its own -/
def rSumL : List V → Hp → VK → Prop := fun vs H Q => ∃ (a b : Addr) (ps : List (Addr × List V)) (zs : List V), vs = [V.ref a, V.ref b] ∧ H a = some (.lst (ps.map fun p => .ref p.1)) ∧ H b = some (.lst zs) ∧ 0 < ps.length ∧ (∀ p ∈ ps, H p.1 = some (.lst p.2)) ∧
  zs.length + ((ps.map (·.2)).flatten).length ≤ sizeLine ∧ ∀ p, H p = none → Q (.ref p) (upd H p (.lst (zs ++ (ps.map (·.2)).flatten)))
theorem cr_sumL (hc : X.calm = true) : CallR X (.builtin "sum") rSumL := by
  intro pins s σ
        H vs us Q I r h
  obtain ⟨a, b, ps, zs, rfl, ha, hb, np, hp, fit, q⟩ := h
  obtain ⟨u, us2, rfl, ru, r2⟩ : ∃ u us2, us = u :: us2 ∧ RelV (V.ref a) u ∧ Vals [V.ref b] us2 := by
    cases r with
    | cons x y => exact
          ⟨_, _, rfl, x, y⟩
  rw [Vals.ref1 r2]
  obtain rfl : u =
        Value.ref a := ru
  obtain ⟨_, ia, na, va, la, ea⟩ := I.lstM ha
  obtain ⟨_, ib, nb, vb, lb, eb⟩ := I.lstM hb
  have lps : ps.length = ia.length := by rw [← la, List.length_map]
  have ex : ∀ i, i < ps.length → ∃ (xs : List Value) (c : Nat) (p : Addr × List V), ps[i]? = some p ∧ Vals p.2 xs ∧ s.heap.get? p.1 = some (lsO xs c) := fun i hi => by
    obtain ⟨_, xs, c, v, _, e⟩ := I.lstM (hp ps[i] (List.getElem_mem hi))
    exact ⟨xs, c, ps[i], List.getElem?_eq_getElem hi, v, e⟩
  have sz : ia.toArray.size = ps.length := by rw [List.size_toArray, lps]
  have rv : Vals (ps.map (·.2)).flatten (restOf (fun i => if h : i < ps.length then (ex i h).choose else []) 0 ps.length) := by
    refine rest_vals ps 0 fun j p e => ?_
    have hj : j < ps.length := (List.getElem?_eq_some_iff.mp e).1
    rw [Nat.zero_add, dif_pos hj]
    obtain ⟨c, p2, e2, v2, _⟩ := (ex j hj).choose_spec
    obtain rfl : p2 = p := Option.some.inj (e2.symm.trans e)
    exact v2
  refine sum_lists (items := ia.toArray) (cur := ib) (cb := nb) (I.ok.hd hc) ⟨_, ea, rfl, _, rfl⟩ (fun i => if h : i < ps.length then ps[i].1 else 0) (fun i => if h : i < ps.length then (ex i h).choose else []) (fun i hi => ?_) (fun i hi => ?_) eb (by rw [sz]; exact np) ?_ fun h' tk t' c' e1 e2 e3 => ?_
  · rw [sz] at hi
    rw [dif_pos hi]
    have ev : (ps.map fun p => V.ref p.1)[i]? = some (V.ref ps[i].1) := by
      rw [List.getElem?_map, List.getElem?_eq_getElem hi]
      rfl
    obtain ⟨u, h1, h2⟩ := Vals.get va ev
    obtain rfl : u = Value.ref ps[i].1 := h2
    simpa using h1
  · rw [sz] at hi
    rw [dif_pos hi, dif_pos hi]
    obtain ⟨c, p2, e2, _, e3⟩ := (ex i hi).choose_spec
    obtain rfl : p2 = ps[i] := Option.some.inj (e2.symm.trans (List.getElem?_eq_getElem hi))
    exact ⟨c, e3⟩
  · rw [sz, ← rv.length, ← vb.length]
    exact fit
  · rw [sz] at e1
    have vv := vb.append rv
    exact ⟨.ref t', _, I.laid (t' := tk) (o := .lst (zs ++ (ps.map (·.2)).flatten)) e3 e2 ⟨by rw [List.length_append]; exact fit, _, c', vv, e1⟩, rfl, q t' (I.hok.fresh e2)⟩
end
end XT
end
section
set_option Elab.async false
set_option linter.all false
set_option maxRecDepth 100000
set_option maxHeartbeats 4100000
namespace XT
open PySem PySem.Spec PyProof.Rows L2 XS
/-! ### how many unlike signs a text has: len(set(text)) -/
/-- the texts of one sign that stand among the first i signs -/
def among (cs : List Nat) (i : Nat) : Str → Bool := fun z => (cs.take i).any fun c => sg c == z
theorem among_iff {cs : List Nat} {i c : Nat} : among cs i (sg c) = true ↔ c ∈ cs.take i := by
  unfold among
  rw [List.any_eq_true]
  refine ⟨fun ⟨d, h1, h2⟩ => ?_, fun h => ⟨c, h, by simp⟩⟩
  rw [beq_iff_eq] at h2
  exact sg_inj h2 ▸ h1
theorem among_succ {cs : List Nat} {i c : Nat} (h : cs[i]? = some c) (z : Str) : (among cs i z || decide (z = sg c)) = among cs (i + 1) z := by
  unfold among
  rw [List.take_succ, h]
  simp only [Option.toList, List.any_append, List.any_cons, List.any_nil, Bool.or_false]
  congr 1
  by_cases e : z = sg c
  · subst e
    simp
  · rw [decide_eq_false e]
    symm
    rw [beq_eq_false_iff_ne]
    exact fun y => e y.symm
section
variable {prog : Program} {w : World} {A : Around} {R : Result → Shared → Prop} {I S : Addr} {fp wr : List Addr} {St : Nat → Heap → Prop} {x : Str}
theorem set_turns (W : Walks prog w A.in1 I fp wr x.cps.size (SignAt x) St) (nS : S ∉ fp) (small : x.length < 4000) :
    ∀ (k i m : Nat) (s : Shared), x.cps.size = i + k → St i s.heap → s.heap.SetOf (PySem.strKind prog w) S (among (cod x) i) m → m ≤ i → (m = i ↔ ((cod x).take i).Nodup) →
      (∀ h' tk m', h'.SetOf (PySem.strKind prog w) S (among (cod x) x.cps.size) m' → m' ≤ x.cps.size → (m' = x.cps.size ↔ (cod x).Nodup) → (∀ y o, y ∉ wr → y ≠ S → s.heap.get? y = some o → h'.get? y = some o) → R (.ok (.ret .none)) { s with heap := h', toks := tk }) →
      codeAny (model prog w) A (.builtin
            "set.update.loop" ⟨[.ref S, .ref I], []⟩) R s := by
  have nW : S ∉ wr := fun h => nS (W.sub _ h)
  intro k
  induction k with
  | zero =>
    intro i m s e st hS le iff q
    obtain rfl : x.cps.size = i := e
    refine codeAny_builtin
          PyProof.Rows.F.entry_set_update_loop ?_
    rw [Around.under_plainId
          PyProof.Rows.F.plain_set_update_loop _]
    show wpAny _ _ (pyNext (.ref I) >>= _) _ _ s
    refine wpAny_bind (W.done s _ _ st fun h' tk keep => ?_)
    show wpAny _ _ (ret
          Value.none) _ _ _
    refine wpAny_pure (q h' tk m ?_ le ?_ fun y o h1 _ h3 => keep y o h1 h3)
    · obtain ⟨o, es, ep, t, ho, rest⟩ := hS
      exact ⟨o, es, ep, t, keep S _ nW ho, rest⟩
    · rw [iff, List.take_of_length_le (by rw [len_cod]; exact Nat.le_refl _)]
  | succ k ih =>
    intro i m s e st hS le iff q
    have lt : i < x.cps.size := by omega
    have lx : x.length = x.cps.size := rfl
    refine codeAny_builtin
          PyProof.Rows.F.entry_set_update_loop ?_
    rw [Around.under_plainId
          PyProof.Rows.F.plain_set_update_loop _]
    show wpAny _ _ (pyNext (.ref I) >>= _) _ _ s
    refine wpAny_bind (W.item i s _ _ lt st fun v h' tk hv st2 keep => ?_)
    obtain ⟨c, u, hc, rfl⟩ := hv
    have hc2 : (cod x)[i]? = some c := by
      show x.cps.toList[i]? = some c
      rw [Array.getElem?_toList]
      exact hc
    have hS2 : h'.SetOf (PySem.strKind prog w) S (among (cod x) i) m := by
      obtain ⟨o, es, ep,
            t, ho, rest⟩ := hS
      exact ⟨o, es, ep, t, keep S _ nW ho, rest⟩
    show wpAny _ _ (holding [Value.str (sg c) u] (setAdd S (.str (sg c) u)) >>= _) _ _ _
    refine wpAny_bind
          (wpAny_holding ?_)
    unfold setAdd
    refine wpAny_holding ?_
    refine wpAny_bind ((PySem.strKind prog w).pyHash (k := sg c) (strKind_is _ _ _ _) ?_)
    refine wpAny_setAddHashed_of (knd := PySem.strKind prog w) (s := { s with heap := h', toks := tk + 1 }) (strKind_is _ _ _ _) rfl hS2 (by unfold scanBound; omega) fun h2 sb hS3 => ?_
    have step : h2.SetOf (PySem.strKind prog w) S (among (cod x) (i + 1)) (if among (cod x) i (sg c) then m else m + 1) := SetOf_congr hS3 (fun z => among_succ hc2 z) rfl
    have tk1 : (cod x).take (i + 1) = (cod x).take i ++ [c] := by rw [List.take_succ, hc2]; rfl
    refine wpAny_pure ⟨plainId_quiet PyProof.Rows.F.plain_set_update_loop _, ih (i + 1) _ _ (by omega) (W.frame _ _ _ st2 fun y hy o ey => ?_) step ?_ ?_ fun h3 t3 m3 e1 e2 e3 e4 => ?_⟩
    · exact (sb.2 y fun h : y = S => nS (h ▸ hy)).trans ey
    · split <;> omega
    · rw [tk1, List.nodup_append]
      cases ha : among (cod x) i (sg c) with
      | true =>
        have mem := among_iff.mp ha
        rw [if_pos rfl]
        refine ⟨fun z => by omega, fun z => absurd rfl (z.2.2 c mem c (by simp))⟩
      | false =>
        have mem : ¬ c ∈ (cod x).take i := fun z => by rw [among_iff.mpr z] at ha; cases ha
        rw [if_neg (by decide)]
        refine ⟨fun z => ⟨iff.mp (by omega), by simp, fun y hy z2 hz => ?_⟩, fun z => by rw [iff.mpr z.1]⟩
        rw [List.mem_singleton] at hz
        subst hz
        exact fun z3 => mem (z3 ▸ hy)
    · exact q h3 t3 m3 e1 e2 e3 fun y o h1 h3 h4 => e4 y o h1 h3 ((sb.2 y h3).trans (keep y o h1 h4))
end
section
variable {prog : Program} {w : World} {A : Around} {E : Value → Shared → Prop} {s : Shared} {x : Str} {u : Tok} {Q : Value → Shared → Prop}
theorem set_text (hh : A.handled = none) (small : x.length < 4000)
    (h : ∀ (h' : Heap) (tk m : Nat), h'.SetOf (PySem.strKind prog w) s.heap.objs.size (among (cod x) x.cps.size) m → m ≤ x.cps.size → (m = x.cps.size ↔ (cod x).Nodup) → (∀ b o, s.heap.get? b = some o → h'.get? b = some o) → Q (.ref s.heap.objs.size) { s with heap := h', toks := tk }) :
    wpAny (model prog w) A (call (.type "set") [.str x u]) Q E s := by
  obtain ⟨c, tl, order⟩ := PySem.F.called_set.mro
  have made := PySem.F.called_set.made
  have below := PySem.F.called_set.sub
  refine wpAny_call
        (codeAny_of_tree ?_)
  show wpAny _ _ (callAny
        (.type "set") _) _ _ _
  refine wpAny_pure ⟨Code.quiet_builtin _ (by
        decide +kernel), codeAny_builtin PySem.F.entry_type_call ?_⟩
  rw [Around.under_plain (weight_type_call_type "set" [.str x u] []) rfl]
  have no1 := PySem.F.called_set.notType
  have can := PySem.F.called_set.canCreate
  have ct := PySem.F.typeCall_set_1 (.str x u)
  repeat (any_goals (first
        | assumption | wp_step))
  refine codeAny_mono (code_set_new_1 (.str x u) (E := E) (Q₁ := fun obj s₁ => ∃ led : Bool, obj = .ref s.heap.objs.size ∧ s₁ = { s with heap := s.heap.push { cls := .type "set", dict := none, data := .set #[] 0 (.fresh 0 0 led) } }) fun led => ⟨led, rfl, rfl⟩) fun r s₁ hr => ?_
  cases r with
  | error e => exact hr
  | ok fl =>
    cases fl with
    | ret obj =>
      obtain ⟨led, rfl, rfl⟩ := hr
      have hS : (s.heap.push { cls := .type "set", dict := none, data := .set #[] 0 (.fresh 0 0 led) }).get? s.heap.objs.size
            = some { cls := .type "set", dict := none, data := .set #[] 0 (.fresh 0 0 led) } := Heap.get?_push_size _ rfl
      have hT : Shared.TypeIs { s with heap := (s.heap.push { cls := .type "set", dict := none, data := .set #[] 0 (.fresh 0 0 led) }) } (.ref s.heap.objs.size) "set" := ⟨_, hS, rfl⟩
      have lookI := PySem.F.called_set.init.lookup
      have bindI := PySem.F.called_set.init.bind (.ref s.heap.objs.size)
      repeat (any_goals (first
            | assumption | wp_step))
      refine codeAny_mono (codeAny_call_builtin (R := wants (fun r s₂ => r = .none ∧ ∃ h' tk m, s₂ = { s with heap := h', toks := tk } ∧ h'.SetOf (PySem.strKind prog w) s.heap.objs.size (among (cod x) x.cps.size) m ∧ m ≤ x.cps.size ∧ (m = x.cps.size ↔ (cod x).Nodup) ∧
          (∀ b o, s.heap.get? b = some o → h'.get? b = some o)) E) PySem.F.called_set.init.plain PySem.F.entry_set_init (check_set_init_1 hT ?_)) fun r₂ s₂ hr₂ => ?_
      · have n1 := PySem.F.sub_str_set
        have n2 := PySem.F.sub_str_frozenset
        have n3 : (Value.type "str" == Value.type "dict") = false := by decide
        unfold Builtin.«set.__init__»
              noKeywords Builtin.Frozenset.updateFrom
        generalize hPI : pyIter = PI
        wp_walk
        subst hPI
        refine wpAny_pyIter_str fun o St W st => ?_
        refine wpAny_bind
              (wpAny_runValue ?_)
        have eS : (s.heap.push { cls := .type "set", dict := none, data := .set #[] 0 (.fresh 0 0 led) }).objs.size = s.heap.objs.size + 1 := Heap.size_push _ _
        have get : ((s.heap.push { cls := .type "set", dict := none, data := .set #[] 0 (.fresh 0 0 led) }).push o).get? s.heap.objs.size = some { cls := .type "set", dict := none, data := .set #[] 0 (.fresh 0 0 led) } := Heap.get?_push_of_some _ hS
        have start : ((s.heap.push { cls := .type "set", dict := none, data := .set #[] 0 (.fresh 0 0 led) }).push o).SetOf (PySem.strKind prog w) s.heap.objs.size (among (cod x) 0) 0 := SetOf_congr ((PyProof.Rows.setObjOf_fresh (knd := PySem.strKind prog w) led).setOf get (by unfold scanBound; omega)) (fun _ => rfl) rfl
        refine set_turns (W _ (by simp [hh])) (fun z => ?_) small x.cps.size 0 0 _ (by rw [Nat.zero_add]) st start (Nat.le_refl _) ⟨fun _ => by simp, fun _ => rfl⟩ fun h' tk m e1 e2 e3 e4 => ?_
        · have e := List.mem_singleton.mp z
          rw [eS] at e
          exact Nat.succ_ne_self _ e.symm
        · show wpAny _ _ _ _ _ _
          refine wpAny_pure ?_
          show wpAny _ _ (ret
                Value.none) _ _ _
          refine wpAny_pure ⟨rfl, h', tk, m, rfl, e1, e2, e3, fun b o2 e => ?_⟩
          have lt := Heap.lt_size e
          refine e4 b o2 (fun z => ?_) (Nat.ne_of_lt lt) (Heap.get?_push_of_some _ (Heap.get?_push_of_some _ e))
          have e5 := List.mem_singleton.mp z
          rw [eS] at e5
          rw [e5] at lt
          exact Nat.lt_irrefl _ (Nat.lt_of_succ_lt lt)
      · cases r₂ with
        | error e => exact hr₂
        | ok fl₂ =>
          cases fl₂ with
          | ret r =>
            obtain ⟨rfl, h', tk, m, rfl, e1, e2, e3, e4⟩ := hr₂
            repeat (any_goals (first
                  | assumption | wp_step))
            exact h _ _ _ e1 e2 e3 e4
          | _ => exact hr₂.elim
    | _ => exact hr.elim
end
section
variable {X : Cx}
/-- len(set(text)): as many as the text has signs exactly if no sign stands twice -/
def tLenSetX (ta : TE) : TE := fun σ H Q => ta σ H fun v H1 => ∃ z : Str, v = .str z ∧ z.length < 4000 ∧ ∀ m : Nat, (m = z.length ↔ (cod z).Nodup) → Q (.int (m : Int)) H1
theorem pe_lenSetX {a : Expr} {ta : TE} {p p2 q pos : Pos} (hc : X.calm = true) (hg : Gl X "len") (hm : X.mg "len" = none) (hg2 : Gl X "set") (hm2 : X.mg "set" = none) (ha : PE X a ta)
    (na : starEach [a] X.env = (false, eval a X.env) :: starEach [] X.env := by rfl) : PE X (.Call (.Name "len" p) [.Call (.Name "set" p2) [a] [] q] [] pos) (tLenSetX ta) := by
  refine ⟨fun pins s σ H Q I h => ?_⟩
  refine Call_ (ld_blt
        I hg hm boot_len ?_)
  refine PyProof.Rows.callWith_builtin1
        (PyProof.Rows.args_cons ?_ rfl) rfl rfl
  refine Call_ (ld_blt
        I hg2 hm2 boot_set ?_)
  refine PyProof.Rows.callWith_type1 (PyProof.Rows.args_cons (thn (ha.run pins s σ H _ I h) fun v s1 ⟨x, H1, I1, r1, z, e, small, q1⟩ => PyProof.Rows.args_nil ?_) na) na rfl
  subst e
  obtain ⟨t, rfl⟩ := r1
  refine set_text (I1.ok.hd hc) small fun h' tk m hS le iff keep => ?_
  refine
        PyProof.Rows.args_nil ?_
  obtain ⟨o, es, ep, t2, ho, hex, hd, _, _, _, hf, hn⟩ := hS
  have I2 : Inv X pins σ H1 { s1 with heap := h', toks := tk } := I1.kept keep
  have lz : z.length = z.cps.size := rfl
  refine call_len_set ho hex hd hf (by rw [hn]; omega) ⟨.int m, H1, I2.tok _, ⟨_, by rw [hn]⟩, q1 m iff⟩
end
end XT
end
section
set_option Elab.async false
set_option linter.all false
set_option maxRecDepth 100000
set_option maxHeartbeats 4100000
namespace LA
open PySem L2 XS XT
abbrev sLetter : Stmt := top 7
abbrev sLine : Stmt := top 8
abbrev sWord : Stmt := top 9
abbrev sShort : Stmt := top 10
abbrev sDiff : Stmt := top 11
/-- a branch that is never gone -/
theorem pss_never {X : Cx} {ss : List Stmt} : PSs X ss (fun _ _ _ => False) := ⟨fun _ _ _ _ _ _ h => h.elim⟩
/-- what the program's modules give -/
structure PkT (mg : Str → Option Value) (t1 t2 t3 t4 : Tok) : Prop where
  len : mg "len" = none
  set : mg "set" = none
  all : mg "all" = none
  ord : mg "ord" = none
  isM : mg "isinstance" = none
  str : mg "str" = none
  first : mg "FIRST_LETTER" = some (.int 32 t1)
  last : mg "LAST_LETTER" = some (.int 126 t2)
  per : mg "PERCENT_SIGN" = some (.int 37 t3)
  word : mg "MAX_WORD" = some (.int 8 t4)
def lineB (z : Str) : Bool := (cod z).all fun c => decide (Lt c)
section
variable {P : Program} {w : World} {K : PySem.W.Frag} {mg : Str → Option Value} {base : Heap} {t1 t2 t3 t4 : Tok}
structure CallOf (P : Program) (w : World) (K : PySem.W.Frag) (mg : Str → Option Value) (base : Heap) (k : Nat) (x : Str) (ps : List Str) (sp : Sp) (f : Addr) (fd : FuncData) : Prop where
  ok : FnOk P w K mg base CX0 k f fd ps sp
  m : mg x = some (.ref f)
  k : PySem.W.keepIn K (.ref f) = true
  b : Binds K fd ps []
/-- is_letter of a text of one sign -/
def spLetter : Sp := fun vs H Q _ => ∃ c, vs = [.str (sg c)] ∧ Q (.bl (decide (Lt c))) H
theorem scLe : FnScope ["character", "code"] ["character"] (defScope sLetter) := ⟨rfl, rfl, rfl, by decide +kernel, rfl, by decide +kernel, by decide +kernel⟩
theorem ok_letter {f : Addr} {fd : FuncData} (F : Fun K "is_letter" "is_letter" sLetter f fd) (T : PkT mg t1 t2 t3 t4) : FnOk P w K mg base CX0 1 f fd ["character"] spLetter := by
  refine F.ok scLe (fun vs H Q E h => ?_) (fun cdv A outer s H vs Q E hr h => ?_)
  · obtain ⟨c, rfl, _⟩ := h
    rfl
  · obtain ⟨c, rfl, q⟩ := h
    refine ⟨_, pss_cons (by exact (ps_set (i := 1) scLe.nd rfl (.inl rfl) (pe_callB call_ord (by rfl) T.ord (by decide +kernel) (pa_cons (pv 0) pa_nil)))) (
      pss_one (by exact (ps_ret (pe_and (pe_chain op_le op_le (pe_glob (v := .int 32) rfl T.first ⟨_, rfl⟩) (pv 1) (pe_glob (v := .int 126) rfl T.last ⟨_, rfl⟩)) (pe_one (pe_cmpR op_ne (pv 1) (pe_glob (v := .int 37) rfl T.per ⟨_, rfl⟩) (nomark _))))))), ?_⟩
    refine ⟨_, rfl, _, rfl, rfl, ?_⟩
    have e0 : (((sg c).cps.getD 0 0 : Nat) : Int) = (c : Int) := rfl
    rw [e0]
    refine ⟨_, rfl, _, _, rfl, rfl, _, rfl, ?_⟩
    by_cases h1 : (32 : Int) ≤ (c : Int)
    · rw [decide_eq_true h1]
      refine iteT ?_
      refine ⟨_, _, rfl, rfl, _, rfl, ?_⟩
      by_cases h2 : (c : Int) ≤ 126
      · rw [decide_eq_true h2]
        refine iteT ?_
        refine ⟨_, rfl, rfl, ?_⟩
        have e : (!decide (V.int (c : Int) = V.int 37)) = decide (Lt c) := by
          by_cases h3 : c = 37
          · subst h3
            decide
          · rw [decide_eq_false (fun z => h3 (by injection z; omega))]
            exact (decide_eq_true ⟨by omega, by omega, h3⟩).symm
        rw [e]
        exact q
      · rw [decide_eq_false h2]
        refine iteF ?_
        have e : decide (Lt c) = false := decide_eq_false (fun z => h2 (by have := z.2.1; omega))
        rw [e] at q
        exact q
    · rw [decide_eq_false h1]
      refine iteF ?_
      refine ⟨_, rfl, ?_⟩
      refine iteF ?_
      have e : decide (Lt c) = false := decide_eq_false (fun z => h1 (by have := z.1; omega))
      rw [e] at q
      exact q
/-- is_line of any value -/
def spLine (K : PySem.W.Frag) : Sp := fun vs H Q _ => ∃ x, vs = [x] ∧ ((∃ z : Str, x = .str z ∧ z.length < 1000000 ∧ ∀ H', Same H H' → Q (.bl (lineB z)) H') ∨
  ((∀ z, x ≠ .str z) ∧ (∃ t, TyX K H x t ∧ PySem.W.kitOne K t (.type "str") = some false) ∧ Q (.bl false) H))
theorem scLi : FnScope ["value", "character"] ["value"] (defScope sLine) := ⟨rfl, rfl, rfl, by decide +kernel, rfl, by decide +kernel, by decide +kernel⟩
theorem ok_line {f f1 : Addr} {fd fd1 : FuncData} (F : Fun K "is_line" "is_line" sLine f fd) (T : PkT mg t1 t2 t3 t4) (M : CallOf P w K mg base 1 "is_letter" ["character"] spLetter f1 fd1) : FnOk P w K mg base CX0 2 f fd ["value"] (spLine K) := by
  refine F.ok scLi (fun vs H Q E h => ?_) (fun cdv A outer s H vs Q E hr h => ?_)
  · obtain ⟨x, rfl, _⟩ := h
    rfl
  · obtain ⟨x, rfl, q⟩ := h
    refine ⟨_, pss_one (by exact (ps_ret (pe_and (pe_callB call_isi (by rfl) T.isM (by decide +kernel) (pa_cons (pv 0) (pa_cons (pe_bltn (v := .ty "str") (by rfl) T.str (by decide +kernel) rfl) pa_nil)))
      (pe_one (pe_callB (cr_all rfl) (by rfl) T.all (by decide +kernel) (pa_cons (pe_lc (own := [("character", 1)]) (g := gName 1) (tt := tYes) (te := tCall spLetter [] (fun _ _ _ => False) (tCons (tVar 1) tNil)) rfl scLi.nd (pi_str (pv 0))
        (blkOk_by (N := ["value", "character"]) (sc := defScope sLine) (by decide +kernel))
        (fun _ _ _ _ _ => by exact (pg_name (i := 1) scLi.nd rfl (Or.inl rfl)))
        (fun _ _ _ _ _ => by exact pts_nil)
        (fun _ _ _ _ _ => by exact (pe_call M.ok hr rfl M.m M.k M.b .nil pass0 (pa_cons (pv 1) pa_nil)))) pa_nil)))))), ?_⟩
    refine ⟨_, rfl, ?_⟩
    rcases q with ⟨z, rfl, small, q⟩ | ⟨nz, ⟨t, ty, ki⟩, q⟩
    · refine ⟨_, _, _, _, true, rfl, .ty _, .base (.str _), kit_ty (by decide +kernel), _, rfl, ?_⟩
      refine iteT ?_
      refine ⟨_, rfl, z, rfl, fun D nD => ?_⟩
      refine lc_it walk_str (fun i G => G D = some (.lst (((cod z).take i).map fun c => V.bl (decide (Lt c)))) ∧ Same H G) ⟨upd_same, same_upd nD⟩ (fun _ _ _ _ => True.intro) (fun i x G G' hi p y => ?_) (fun G p => ?_)
      · obtain ⟨pD, pS⟩ := p
        obtain ⟨rfl, c, hc, rfl⟩ := y
        have hc2 : (cod z)[i]? = some c := by
          show z.cps.toList[i]? = some c
          rw [Array.getElem?_toList]
          exact hc
        refine ⟨rfl, ?_⟩
        dsimp only [tYes]
        rw [if_pos rfl]
        refine ⟨_, rfl, c, rfl, _, pD, ?_, ?_, ?_⟩
        · rw [List.length_map, List.length_take]
          exact Nat.lt_of_le_of_lt (Nat.min_le_right _ _) (by rw [len_cod]; exact Nat.lt_trans small (by decide))
        · rw [List.take_succ, hc2, List.map_append]
          exact upd_same
        · intro b o e
          rw [upd_ne]
          · exact pS b o e
          · exact ne_of_none e nD
      · obtain ⟨pD, pS⟩ := p
        refine ⟨_, ((cod z).map fun c => decide (Lt c)), rfl, ?_, ?_⟩
        · have e : ((cod z).take z.cps.size) = cod z := List.take_of_length_le (by rw [len_cod]; exact Nat.le_refl _)
          rw [e] at pD
          rw [List.map_map]
          exact SqL.of pD
        · have e : ((cod z).map fun c => decide (Lt c)).all id = lineB z := by
            unfold lineB
            rw [List.all_map]
            rfl
          rw [e]
          exact q G pS
    · refine ⟨_, _, _, _, false, rfl, .ty _, ty, ki, _, rfl, ?_⟩
      exact iteF q
/-- a question on any value that asks a text for b, and says no of all else -/
def spAsk (K : PySem.W.Frag) (b : Str → Bool) : Sp := fun vs H Q _ => ∃ x, vs = [x] ∧ ((∃ z : Str, x = .str z ∧ z.length < 1000000 ∧ ∀ H', Same H H' → Q (.bl (b z)) H') ∨
  ((∀ z, x ≠ .str z) ∧ (∃ t, TyX K H x t ∧ PySem.W.kitOne K t (.type "str") = some false) ∧ Q (.bl false) H))
theorem ask_line {K : PySem.W.Frag} : spAsk K lineB = spLine K := rfl
def wordB (z : Str) : Bool := lineB z && decide (0 < z.length)
def shortB (z : Str) : Bool := wordB z && decide (z.length ≤ 8)
theorem str_empty (z : Str) : (!decide (V.str z = V.str "")) = decide (0 < z.length) := by
  by_cases h : z.length = 0
  · have e : z = "" := cod_ext (by
      have : (cod z).length = 0 := by rw [len_cod]; exact h
      rw [List.length_eq_zero_iff.mp this]
      rfl)
    subst e
    decide
  · have e : ¬ V.str z = V.str "" := fun y => h (by injection y with y; subst y; rfl)
    rw [decide_eq_false e, decide_eq_true (Nat.pos_of_ne_zero h)]
    rfl
theorem scWo : FnScope ["value"] ["value"] (defScope sWord) := ⟨rfl, rfl, rfl, by decide +kernel, rfl, by decide +kernel, by decide +kernel⟩
theorem ok_word {f f1 : Addr} {fd fd1 : FuncData} (F : Fun K "is_word" "is_word" sWord f fd) (M : CallOf P w K mg base 2 "is_line" ["value"] (spLine K) f1 fd1) : FnOk P w K mg base CX0 3 f fd ["value"] (spAsk K wordB) := by
  refine F.ok scWo (fun vs H Q E h => ?_) (fun cdv A outer s H vs Q E hr h => ?_)
  · obtain ⟨x, rfl, _⟩ := h
    rfl
  · obtain ⟨x, rfl, q⟩ := h
    refine ⟨_, pss_one (by exact (ps_ret (pe_and (pe_call M.ok hr rfl M.m M.k M.b .nil pass0 (pa_cons (pv 0) pa_nil)) (pe_one (pe_cmpR op_ne (pv 0) pe_str (nomark _)))))), ?_⟩
    rcases q with ⟨z, rfl, small, q⟩ | ⟨nz, ty, q⟩
    · refine ⟨_, rfl, _, rfl, .inl ⟨z, rfl, small, fun H' sm => ⟨_, rfl, ?_⟩⟩⟩
      cases hl : lineB z with
      | true =>
        refine iteT ⟨_, rfl, rfl, ?_⟩
        rw [str_empty]
        have e : wordB z = decide (0 < z.length) := by unfold wordB; rw [hl, Bool.true_and]
        rw [← e]
        exact q H' sm
      | false =>
        refine iteF ?_
        have e : wordB z = false := by unfold wordB; rw [hl, Bool.false_and]
        rw [← e]
        exact q H' sm
    · exact ⟨_, rfl, _, rfl, .inr ⟨nz, ty, _, rfl, iteF q⟩⟩
theorem scSh : FnScope ["value"] ["value"] (defScope sShort) := ⟨rfl, rfl, rfl, by decide +kernel, rfl, by decide +kernel, by decide +kernel⟩
theorem ok_short {f f1 : Addr} {fd fd1 : FuncData} (F : Fun K "is_short_word" "is_short_word" sShort f fd) (T : PkT mg t1 t2 t3 t4) (M : CallOf P w K mg base 3 "is_word" ["value"] (spAsk K wordB) f1 fd1) : FnOk P w K mg base CX0 4 f fd ["value"] (spAsk K shortB) := by
  refine F.ok scSh (fun vs H Q E h => ?_) (fun cdv A outer s H vs Q E hr h => ?_)
  · obtain ⟨x, rfl, _⟩ := h
    rfl
  · obtain ⟨x, rfl, q⟩ := h
    refine ⟨_, pss_one (by exact (ps_ret (pe_and (pe_call M.ok hr rfl M.m M.k M.b .nil pass0 (pa_cons (pv 0) pa_nil)) (pe_one (pe_cmpR op_le (pe_callB call_len_str (by rfl) T.len PySem.boot_len (pa_cons (pv 0) pa_nil)) (pe_glob (v := .int 8) rfl T.word ⟨_, rfl⟩) (nomark _)))))), ?_⟩
    rcases q with ⟨z, rfl, small, q⟩ | ⟨nz, ty, q⟩
    · refine ⟨_, rfl, _, rfl, .inl ⟨z, rfl, small, fun H' sm => ⟨_, rfl, ?_⟩⟩⟩
      cases hl : wordB z with
      | true =>
        refine iteT ⟨_, rfl, z, rfl, Nat.le_of_lt (Nat.lt_trans small (by decide)), _, _, rfl, rfl, ?_⟩
        have e : shortB z = decide ((z.length : Int) ≤ 8) := by
          unfold shortB
          rw [hl, Bool.true_and]
          by_cases h : z.length ≤ 8
          · rw [decide_eq_true h, decide_eq_true (by omega)]
          · rw [decide_eq_false h, decide_eq_false (by omega)]
        show Q (.bl (decide ((z.length : Int) ≤ 8))) H'
        rw [← e]
        exact q H' sm
      | false =>
        refine iteF ?_
        have e : shortB z = false := by unfold shortB; rw [hl, Bool.false_and]
        rw [← e]
        exact q H' sm
    · exact ⟨_, rfl, _, rfl, .inr ⟨nz, ty, _, rfl, iteF q⟩⟩
/-- are_different of a text -/
def spDiffT : Sp := fun vs H Q _ => ∃ z : Str, vs = [.str z] ∧ z.length < 4000 ∧ Q (.bl (decide (cod z).Nodup)) H
theorem scDi : FnScope ["line"] ["line"] (defScope sDiff) := ⟨rfl, rfl, rfl, by decide +kernel, rfl, by decide +kernel, by decide +kernel⟩
theorem ok_diff {f : Addr} {fd : FuncData} (F : Fun K "are_different" "are_different" sDiff f fd) (T : PkT mg t1 t2 t3 t4) : FnOk P w K mg base CX0 1 f fd ["line"] spDiffT := by
  refine F.ok scDi (fun vs H Q E h => ?_) (fun cdv A outer s H vs Q E hr h => ?_)
  · obtain ⟨z, rfl, _⟩ := h
    rfl
  · obtain ⟨z, rfl, small, q⟩ := h
    refine ⟨_, pss_one (by exact (ps_ret (pe_cmpR op_eq (pe_lenSetX rfl (by rfl) T.len (by rfl) T.set (pv 0)) (pe_callB call_len_str (by rfl) T.len PySem.boot_len (pa_cons (pv 0) pa_nil)) (nomark _)))), ?_⟩
    refine ⟨_, rfl, z, rfl, small, fun m iff => ⟨_, rfl, z, rfl, Nat.le_of_lt (Nat.lt_trans small (by decide)), rfl, ?_⟩⟩
    have e : decide (V.int (m : Int) = V.int (z.length : Int)) = decide (cod z).Nodup := by
      by_cases h : (cod z).Nodup
      · rw [decide_eq_true h, iff.mpr h]
        exact decide_eq_true rfl
      · rw [decide_eq_false h]
        exact decide_eq_false fun y => h (iff.mp (by injection y; omega))
    rw [e]
    exact q
end
end LA
end
section
set_option Elab.async false
set_option linter.all false
set_option maxRecDepth 100000
set_option maxHeartbeats 4100000
namespace LA
open PySem L2 XS XT XK
/-- the def at place j of the class at place i -/
def cb (i j : Nat) : Stmt := match top i with
  | .ClassDef (body := b) .. => b.getD j (.Pass ⟨0, 0, 0, 0⟩)
  | _ => .Pass ⟨0, 0, 0, 0⟩
/-- any value that the law draws -/
inductive AnyV (H : Hp) : V → Prop
  | non : AnyV H .non
  | bl (b : Bool) : AnyV H (.bl b)
  | int (i : Int) : AnyV H (.int i)
  | str (z : Str) : z.length < 4000 → AnyV H (.str z)
  | lst {a : Addr} {xs : List V} : H a = some (.lst xs) → AnyV H (.ref a)
  | tup {a : Addr} {xs : List V} : H a = some (.tup xs) → AnyV H (.ref a)
  | dct {a : Addr} {kvs : List (Key × V)} : H a = some (.dK kvs) → AnyV H (.ref a)
theorem AnyV.keep {H H' : Hp} (k : ∀ b o, H b = some o → (∃ xs, o = .lst xs) ∨ (∃ xs, o = .tup xs) ∨ (∃ kvs, o = .dK kvs) → H' b = some o) {x : V} (h : AnyV H x) : AnyV H' x := by
  cases h with
  | non => exact .non
  | bl b => exact .bl b
  | int i => exact .int i
  | str z e => exact .str z e
  | lst e => exact .lst (k _ _ e (.inl ⟨_, rfl⟩))
  | tup e => exact .tup (k _ _ e (.inr (.inl ⟨_, rfl⟩)))
  | dct e => exact .dct (k _ _ e (.inr (.inr ⟨_, rfl⟩)))
theorem AnyV.same {H H' : Hp} (s : Same H H') {x : V} (h : AnyV H x) : AnyV H' x := h.keep fun _ _ e _ => s _ _ e
/-- the names of its types, but str -/
def tyN : List String := ["NoneType", "bool", "int", "list", "tuple", "dict"]
theorem AnyV.kinds {K : PySem.W.Frag} {H : Hp} {x : V} (h : AnyV H x) : (∃ z, x = .str z ∧ z.length < 4000) ∨ ((∀ z, x ≠ .str z) ∧ ∃ n ∈ tyN, TyX K H x (.type n) ∧ PySem.W.kitOne K (.type n) (.type "str") = some false) := by
  cases h with
  | non => exact .inr ⟨fun z e => (by cases e), _, by decide, .base .non, kit_ty (by decide +kernel)⟩
  | bl b => exact .inr ⟨fun z e => (by cases e), _, by decide, .base (.bl b), kit_ty (by decide +kernel)⟩
  | int i => exact .inr ⟨fun z e => (by cases e), _, by decide, .base (.int i), kit_ty (by decide +kernel)⟩
  | str z e => exact .inl ⟨z, rfl, e⟩
  | lst a => exact .inr ⟨fun z e => (by cases e), _, by decide, .base (.lst a), kit_ty (by decide +kernel)⟩
  | tup a => exact .inr ⟨fun z e => (by cases e), _, by decide, .base (.tup a), kit_ty (by decide +kernel)⟩
  | dct a => exact .inr ⟨fun z e => (by cases e), _, by decide, .base (.dK a), kit_ty (by decide +kernel)⟩
theorem AnyV.cls {K : PySem.W.Frag} {H : Hp} {x : V} (h : AnyV H x) : ∃ n, (n = "str" ∨ n ∈ tyN) ∧ TyX K H x (.type n) := by
  rcases h.kinds (K := K) with ⟨z, rfl, _⟩ | ⟨_, n, m, ty, _⟩
  · exact ⟨_, .inl rfl, .base (.str z)⟩
  · exact ⟨n, .inr m, ty⟩
/-- what a question of texts says of a value -/
def okv (b : Str → Bool) : V → Bool
  | .str z => b z
  | _ => false
theorem okv_str {b : Str → Bool} {z : Str} : okv b (.str z) = b z := rfl
theorem okv_no {b : Str → Bool} {x : V} (h : ∀ z, x ≠ .str z) : okv b x = false := by
  cases x with
  | str z => exact absurd rfl (h z)
  | _ => rfl
section
variable {P : Program} {w : World} {K : PySem.W.Frag} {mg : Str → Option Value} {base : Heap} {t1 t2 t3 t4 : Tok}
/-- a question on any value -/
def spAny1 (K : PySem.W.Frag) (b : Str → Bool) : Sp := fun vs H Q _ => ∃ x, vs = [x] ∧ AnyV H x ∧ ∀ H', Same H H' → Q (.bl (okv b x)) H'
theorem ask_any {k : Nat} {f : Addr} {fd : FuncData} {ps : List Str} {b : Str → Bool} (F : FnOk P w K mg base CX0 k f fd ps (spAsk K b)) : FnOk P w K mg base CX0 k f fd ps (spAny1 K b) :=
  F.imp fun vs H Q E ⟨x, e, a, q⟩ => ⟨x, e, by
    rcases a.kinds (K := K) with ⟨z, rfl, hz⟩ | ⟨no, n, _, ty⟩
    · exact .inl ⟨z, rfl, by omega, q⟩
    · have q0 := q H (fun _ _ e => e)
      rw [okv_no no] at q0
      exact .inr ⟨no, ⟨_, ty⟩, q0⟩⟩
/-- the package's error, at D, is raised with the name of an argument -/
def Refuses (D : Addr) (H : Hp) (E : XK) (arg : Str) : Prop := ∀ (d : Addr) (H' : Hp), H d = none → Same H H' → H' d = some (.xd [("argument", .str arg)]) → E (.ref D) (some d) H'
theorem Refuses.later {D : Addr} {H H1 : Hp} {E : XK} {arg : Str} (s : Same H H1) (r : Refuses D H E arg) : Refuses D H1 E arg := fun d H' n s2 e => r d H' (by
  cases q : H d with
  | none => rfl
  | some o => exact absurd ((s _ _ q).symm.trans n) (by simp)) (s.trans s2) e
/-- the making of the error -/
def spXI : Sp := fun vs H Q _ => ∃ (a C : Addr) (v : V), vs = [.ref a, v] ∧ OexC K C ∧ PySem.W.findIn K (.ref C) "argument" = some none ∧ H a = some (exo a C none) ∧ ∀ dx, H dx = none → dx ≠ a → Q .non (upd (upd H dx (exd dx [("argument", v)])) a (exo a C (some dx)))
abbrev sXI : Stmt := cb 1 0
theorem scXI : FnScope ["self", "argument"] ["self", "argument"] (defScope sXI) := ⟨rfl, rfl, rfl, by decide +kernel, rfl, by decide +kernel, by decide +kernel⟩
theorem ok_XI {f : Addr} {fd : FuncData} (F : Fun K "__init__" "InvalidChange.__init__" sXI f fd) : FnOk P w K mg base CX0 1 f fd ["self", "argument"] (spXI (K := K)) := by
  refine F.ok scXI (fun vs H Q E h => ?_) (fun cdv A outer s H vs Q E hr h => ?_)
  · obtain ⟨a, C, v, rfl, _⟩ := h
    rfl
  · obtain ⟨a, C, v, rfl, T, no, ea, q⟩ := h
    refine ⟨_, pss_one (by exact (ps_ost (pv 0) (pv 1))), ?_⟩
    exact ⟨_, rfl, _, rfl, a, C, rfl, T, no, .inl ⟨ea, fun dx n ne => q dx n ne⟩⟩
/-- the error's class, as the raising defs see it -/
structure ErrAt (P : Program) (w : World) (K : PySem.W.Frag) (mg : Str → Option Value) (base : Heap) (D fI : Addr) (fd : FuncData) : Prop where
  T : OexC K D
  no : PySem.W.findIn K (.ref D) "argument" = some none
  i : PySem.W.findIn K (.ref D) "__init__" = some (some (.ref fI))
  ty : PySem.W.typeIn K (.ref fI) = some (.type "function")
  ok : FnOk P w K mg base CX0 1 fI fd ["self", "argument"] (spXI (K := K))
  b : Binds K fd ["self", "argument"] []
  m : mg "InvalidChange" = some (.ref D)
/-- what raise InvalidChange("..") asks -/
theorem rd_raise {D : Addr} {H : Hp} {E : XK} {arg : Str} (T : OexC K D) (no : PySem.W.findIn K (.ref D) "argument" = some none) (r : Refuses D H E arg) : ([V.str arg] : List V).length ≤ 1000 ∧ ∀ a, H a = none → spXI (K := K) (.ref a :: ([V.str arg] ++ [])) (upd H a (exo a D none))
    (fun v H2 => v = .non ∧ ∃ (d : Addr) (fs : List (Str × V)), H2 a = some (exo a D (some d)) ∧ H2 d = some (exd d fs) ∧ H d = none ∧ E (.ref D) (some d) (upd (del H2 a) d (.xd fs))) (fun _ _ _ => False) := by
  refine ⟨by show 1 ≤ 1000; decide, fun a na => ⟨a, D, .str arg, rfl, T, no, upd_same, fun dx nd ne => ⟨rfl, dx, _, upd_same, by rw [upd_ne ne, upd_same], ?_, ?_⟩⟩⟩
  · rw [upd_ne ne] at nd
    exact nd
  · have nd' : H dx = none := by
      rw [upd_ne ne] at nd
      exact nd
    refine r dx _ nd' (fun b o e => ?_) upd_same
    have hb : b ≠ dx := ne_of_none e nd'
    have ha : b ≠ a := ne_of_none e na
    rw [upd_ne hb, del_ne ha, upd_ne ha, upd_ne hb, upd_ne ha]
    exact e
/-- a def that may refuse, as it is called -/
structure CallX (P : Program) (w : World) (K : PySem.W.Frag) (mg : Str → Option Value) (base : Heap) (k : Nat) (x : Str) (ps : List Str) (sp : Sp) (f : Addr) (fd : FuncData) : Prop where
  ok : FnOk P w K mg base (L2.CX P w) k f fd ps sp
  m : mg x = some (.ref f)
  k : PySem.W.keepIn K (.ref f) = true
  b : Binds K fd ps []
abbrev sChkW : Stmt := top 22
abbrev sChkP : Stmt := top 21
/-- check_word -/
def spChkW (K : PySem.W.Frag) (D : Addr) : Sp := fun vs H Q E => ∃ x, vs = [x] ∧ AnyV H x ∧ (okv shortB x = true → ∀ H', Same H H' → Q .non H') ∧ (okv shortB x = false → Refuses D H E "word")
theorem scCw : FnScope ["word"] ["word"] (defScope sChkW) := ⟨rfl, rfl, rfl, by decide +kernel, rfl, by decide +kernel, by decide +kernel⟩
theorem ok_chkW {f f1 D fI : Addr} {fd fd1 fdI : FuncData} (F : Fun K "check_word" "check_word" sChkW f fd) (X : ErrAt P w K mg base D fI fdI) (M : CallOf P w K mg base 4 "is_short_word" ["value"] (spAny1 K shortB) f1 fd1) : FnOk P w K mg base (L2.CX P w) 5 f fd ["word"] (spChkW K D) := by
  refine F.okX scCw (fun vs H Q E h => ?_) (fun cdv A outer s H vs Q E hr h => ?_)
  · obtain ⟨x, rfl, _⟩ := h
    rfl
  · obtain ⟨x, rfl, a, q1, q2⟩ := h
    have hr2 : Room 2 _ := hr.mono (by decide)
    refine ⟨_, pss_one (by exact (ps_if (pt_not (pt_val (pe_call M.ok hr rfl M.m M.k M.b .nil pass0 (pa_cons (pv 0) pa_nil)))) (pss_one (ps_raise rfl (takes_of rfl rfl rfl rfl) (pmk_oex X.T X.i X.ty X.ok hr2 X.b .nil pass0 rfl X.m (pa_cons pe_str pa_nil)))) pss_nil)), ?_⟩
    refine ⟨_, rfl, x, rfl, a, fun H' sm => ⟨_, rfl, ?_⟩⟩
    cases e : okv shortB x with
    | true => exact iteF (q1 e H' sm)
    | false => exact iteT (rd_raise X.T X.no ((q2 e).later sm))
end
end LA
end
section
set_option Elab.async false
set_option linter.all false
set_option maxRecDepth 100000
set_option maxHeartbeats 4100000
namespace LA
open PySem L2 XS XT XK
structure C1 (K : PySem.W.Frag) (C : Addr) (fld : Str) : Prop where
  cls : Cls K C
  no : NoAttr K C fld
/-- a class whose objects keep two values -/
structure C2 (K : PySem.W.Frag) (C : Addr) (f1 f2 : Str) : Prop where
  cls : Cls K C
  one : NoAttr K C f1
  oth : NoAttr K C f2
section
variable {P : Program} {w : World} {K : PySem.W.Frag} {mg : Str → Option Value} {base : Heap} {t1 t2 t3 t4 : Tok}
theorem But.same_put {a : Addr} {H H' : Hp} {o : HO} (s : Same H H') : But a H (upd H' a o) := fun b u e n => by
  rw [upd_ne n]
  exact s b u e
/-- the making of a change of one text, of any value: it is made, or refused -/
def spInitX (C : Addr) (fld : Str) (D : Addr) (b : Str → Bool) (arg : Str) : Sp := fun vs H Q E => ∃ (a dx : Addr) (x : V), vs = [.ref a, x] ∧ H a = some (.ins C dx []) ∧ AnyV H x ∧
  (okv b x = true → ∀ H', H' a = some (.ins C dx [(fld, x)]) → But a H H' → Q .non H') ∧ (okv b x = false → Refuses D H E arg)
abbrev sIFront : Stmt := cb 18 0
theorem scIFront : FnScope ["self", "word"] ["self", "word"] (defScope sIFront) := ⟨rfl, rfl, rfl, by decide +kernel, rfl, by decide +kernel, by decide +kernel⟩
theorem ok_IFront {f f1 C D : Addr} {fd fd1 : FuncData} (F : Fun K "__init__" "Front.__init__" sIFront f fd) (T : C1 K C "_word") (M : CallX P w K mg base 5 "check_word" ["word"] (spChkW K D) f1 fd1) :
    FnOk P w K mg base (L2.CX P w) 6 f fd ["self", "word"] (spInitX C "_word" D shortB "word") := by
  refine F.okX scIFront (fun vs H Q E h => ?_) (fun cdv A outer s H vs Q E hr h => ?_)
  · obtain ⟨a, dx, x, rfl, _⟩ := h
    rfl
  · obtain ⟨a, dx, x, rfl, ha, hx, q1, q2⟩ := h
    refine ⟨_, pss_cons (by exact (ps_expr (pe_call M.ok hr rfl M.m M.k M.b .nil (passes_call (takes_of rfl rfl rfl rfl) (fun _ _ _ _ h => h)) (pa_cons (pv 1) pa_nil)))) (pss_one (by exact (ps_fld (pv 0) (pv 1) rfl))), ?_⟩
    refine ⟨_, rfl, x, rfl, hx, fun e H' sm => ⟨_, rfl, _, rfl, a, C, dx, [], rfl, sm _ _ ha, T.cls, T.no, by decide, ?_⟩, q2⟩
    exact q1 e _ upd_same (But.same_put sm)
abbrev sIBehind : Stmt := cb 19 0
theorem scIBehind : FnScope ["self", "word"] ["self", "word"] (defScope sIBehind) := ⟨rfl, rfl, rfl, by decide +kernel, rfl, by decide +kernel, by decide +kernel⟩
theorem ok_IBehind {f f1 C D : Addr} {fd fd1 : FuncData} (F : Fun K "__init__" "Behind.__init__" sIBehind f fd) (T : C1 K C "_word") (M : CallX P w K mg base 5 "check_word" ["word"] (spChkW K D) f1 fd1) :
    FnOk P w K mg base (L2.CX P w) 6 f fd ["self", "word"] (spInitX C "_word" D shortB "word") := by
  refine F.okX scIBehind (fun vs H Q E h => ?_) (fun cdv A outer s H vs Q E hr h => ?_)
  · obtain ⟨a, dx, x, rfl, _⟩ := h
    rfl
  · obtain ⟨a, dx, x, rfl, ha, hx, q1, q2⟩ := h
    refine ⟨_, pss_cons (by exact (ps_expr (pe_call M.ok hr rfl M.m M.k M.b .nil (passes_call (takes_of rfl rfl rfl rfl) (fun _ _ _ _ h => h)) (pa_cons (pv 1) pa_nil)))) (pss_one (by exact (ps_fld (pv 0) (pv 1) rfl))), ?_⟩
    refine ⟨_, rfl, x, rfl, hx, fun e H' sm => ⟨_, rfl, _, rfl, a, C, dx, [], rfl, sm _ _ ha, T.cls, T.no, by decide, ?_⟩, q2⟩
    exact q1 e _ upd_same (But.same_put sm)
/-- two values: they are taken, or the first wrong one is named -/
def Two (D : Addr) (b1 : V → Bool) (b2 : V → V → Bool) (a1 a2 : Str) (H : Hp) (x y : V) (E : XK) (ok : Prop) : Prop :=
  AnyV H x ∧ AnyV H y ∧ (b1 x = true → b2 x y = true → ok) ∧ (b1 x = false → Refuses D H E a1) ∧ (b1 x = true → b2 x y = false → Refuses D H E a2)
theorem Two.imp {D : Addr} {b1 : V → Bool} {b2 : V → V → Bool} {a1 a2 : Str} {H : Hp} {x y : V} {E : XK} {p q : Prop} (h : Two D b1 b2 a1 a2 H x y E p) (i : p → q) : Two D b1 b2 a1 a2 H x y E q :=
  ⟨h.1, h.2.1, fun e1 e2 => i (h.2.2.1 e1 e2), h.2.2.2.1, h.2.2.2.2⟩
def newB (z : Str) : Bool := lineB z && decide (z.length ≤ 8)
def letB (z : Str) : Bool := wordB z && decide (cod z).Nodup
/-- others fit letters -/
def othB : V → V → Bool
  | .str l, .str o => lineB o && decide (o.length = l.length)
  | _, _ => false
def newB2 (_ y : V) : Bool := okv newB y
theorem newB_no {y : V} (h : okv lineB y = false) : okv newB y = false := by
  cases y with
  | str z => show (lineB z && _) = false; rw [show lineB z = false from h]; rfl
  | _ => rfl
theorem letB_no {y : V} (h : okv wordB y = false) : okv letB y = false := by
  cases y with
  | str z => show (wordB z && _) = false; rw [show wordB z = false from h]; rfl
  | _ => rfl
theorem othB_no {x y : V} (h : okv lineB y = false) : othB x y = false := by
  cases x with
  | str l =>
    cases y with
    | str z => show (lineB z && _) = false; rw [show lineB z = false from h]; rfl
    | _ => rfl
  | _ => rfl
theorem okv_text {b : Str → Bool} {y : V} (h : okv b y = true) : ∃ z, y = .str z ∧ b z = true := by
  cases y with
  | str z => exact ⟨z, rfl, h⟩
  | _ => cases h
theorem AnyV.short {H : Hp} {z : Str} (h : AnyV H (.str z)) : z.length < 4000 := by
  cases h with
  | str _ h => exact h
/-- check_pair -/
def spChkP (D : Addr) : Sp := fun vs H Q E => ∃ (x y : V), vs = [x, y] ∧ Two D (okv shortB) newB2 "old" "new" H x y E (∀ H', Same H H' → Q .non H')
theorem scCp : FnScope ["old", "new"] ["old", "new"] (defScope sChkP) := ⟨rfl, rfl, rfl, by decide +kernel, rfl, by decide +kernel, by decide +kernel⟩
theorem ok_chkP {f f1 f2 D fI : Addr} {fd fd1 fd2 fdI : FuncData} (F : Fun K "check_pair" "check_pair" sChkP f fd) (L : PkT mg t1 t2 t3 t4) (X : ErrAt P w K mg base D fI fdI) (M : CallOf P w K mg base 4 "is_short_word" ["value"] (spAny1 K shortB) f1 fd1) (N : CallOf P w K mg base 2 "is_line" ["value"] (spAny1 K lineB) f2 fd2) :
    FnOk P w K mg base (L2.CX P w) 5 f fd ["old", "new"] (spChkP D) := by
  refine F.okX scCp (fun vs H Q E h => ?_) (fun cdv A outer s H vs Q E hr h => ?_)
  · obtain ⟨x, y, rfl, _⟩ := h
    rfl
  · obtain ⟨x, y, rfl, hx, hy, q1, q2, q3⟩ := h
    have hr2 : Room 2 _ := hr.mono (by decide)
    refine ⟨_, pss_cons (by exact (ps_if (pt_not (pt_val (pe_call M.ok hr rfl M.m M.k M.b .nil pass0 (pa_cons (pv 0) pa_nil)))) (pss_one (ps_raise rfl (takes_of rfl rfl rfl rfl) (pmk_oex X.T X.i X.ty X.ok hr2 X.b .nil pass0 rfl X.m (pa_cons pe_str pa_nil)))) pss_nil)) (
      pss_one (by exact (ps_if (PW.pt (pw_or (pt_not (pt_val (pe_call N.ok hr2 rfl N.m N.k N.b .nil pass0 (pa_cons (pv 1) pa_nil)))) (pw_or1 (pt_cmpR op_gt (pe_callB call_len_str (by rfl) L.len PySem.boot_len (pa_cons (pv 1) pa_nil)) (pe_glob (v := .int 8) rfl L.word ⟨_, rfl⟩) (nomark _)))))
        (pss_one (ps_raise rfl (takes_of rfl rfl rfl rfl) (pmk_oex X.T X.i X.ty X.ok hr2 X.b .nil pass0 rfl X.m (pa_cons pe_str pa_nil)))) pss_nil))), ?_⟩
    refine ⟨_, rfl, x, rfl, hx, fun H1 s1 => ⟨_, rfl, ?_⟩⟩
    cases e1 : okv shortB x with
    | false => exact iteT (rd_raise X.T X.no ((q2 e1).later s1))
    | true =>
      refine iteF ⟨_, rfl, y, rfl, hy.same s1, fun H2 s2 => ⟨_, rfl, ?_⟩⟩
      have s3 := s1.trans s2
      cases e2 : okv lineB y with
      | false => exact iteT (rd_raise X.T X.no ((q3 e1 (newB_no e2)).later s3))
      | true =>
        obtain ⟨z, rfl, lb⟩ := okv_text e2
        have lz := hy.short
        refine iteF ⟨_, rfl, z, rfl, Nat.le_trans (Nat.le_of_lt lz) (by decide), _, _, rfl, rfl, _, rfl, ?_⟩
        by_cases h8 : z.length ≤ 8
        · rw [decide_eq_false (by omega)]
          exact iteF (q1 e1 (by show (lineB z && decide (z.length ≤ 8)) = true; rw [lb, decide_eq_true h8]; rfl) _ s3)
        · rw [decide_eq_true (by omega)]
          exact iteT (rd_raise X.T X.no ((q3 e1 (by show (lineB z && decide (z.length ≤ 8)) = false; rw [decide_eq_false h8, Bool.and_false])).later s3))
/-- the making of a change of two texts -/
def spInit2 (C : Addr) (f1 f2 : Str) (D : Addr) (b1 : V → Bool) (b2 : V → V → Bool) (a1 a2 : Str) : Sp := fun vs H Q E => ∃ (a dx : Addr) (x y : V), vs = [.ref a, x, y] ∧ H a = some (.ins C dx []) ∧
  Two D b1 b2 a1 a2 H x y E (∀ H', H' a = some (.ins C dx [(f1, x), (f2, y)]) → But a H H' → Q .non H')
abbrev sIFirst : Stmt := cb 15 0
theorem scIFirst : FnScope ["self", "old", "new"] ["self", "old", "new"] (defScope sIFirst) := ⟨rfl, rfl, rfl, by decide +kernel, rfl, by decide +kernel, by decide +kernel⟩
theorem ok_IFirst {f f1 C D : Addr} {fd fd1 : FuncData} (F : Fun K "__init__" "First.__init__" sIFirst f fd) (T : C2 K C "_old" "_new") (M : CallX P w K mg base 5 "check_pair" ["old", "new"] (spChkP D) f1 fd1) :
    FnOk P w K mg base (L2.CX P w) 6 f fd ["self", "old", "new"] (spInit2 C "_old" "_new" D (okv shortB) newB2 "old" "new") := by
  refine F.okX scIFirst (fun vs H Q E h => ?_) (fun cdv A outer s H vs Q E hr h => ?_)
  · obtain ⟨a, dx, u, v, rfl, _⟩ := h
    rfl
  · obtain ⟨a, dx, u, v, rfl, ha, tw⟩ := h
    refine ⟨_, pss_cons (by exact (ps_expr (pe_call M.ok hr rfl M.m M.k M.b .nil (passes_call (takes_of rfl rfl rfl rfl) (fun _ _ _ _ h => h)) (pa_cons (pv 1) (pa_cons (pv 2) pa_nil))))) (pss_cons (by exact (ps_fld (pv 0) (pv 1) rfl)) (pss_one (by exact (ps_fld (pv 0) (pv 2) rfl)))), ?_⟩
    refine ⟨_, rfl, _, rfl, u, v, rfl, tw.imp fun q H1 s1 => ⟨_, rfl, _, rfl, a, C, dx, [], rfl, s1 _ _ ha, T.cls, T.one, by decide, ?_⟩⟩
    refine ⟨_, rfl, _, rfl, a, C, dx, _, rfl, upd_same, T.cls, T.oth, (by show 1 < 1000; decide), ?_⟩
    rw [upd_upd]
    exact q _ upd_same (But.same_put s1)
abbrev sIEvery : Stmt := cb 16 0
theorem scIEvery : FnScope ["self", "old", "new"] ["self", "old", "new"] (defScope sIEvery) := ⟨rfl, rfl, rfl, by decide +kernel, rfl, by decide +kernel, by decide +kernel⟩
theorem ok_IEvery {f f1 C D : Addr} {fd fd1 : FuncData} (F : Fun K "__init__" "Every.__init__" sIEvery f fd) (T : C2 K C "_old" "_new") (M : CallX P w K mg base 5 "check_pair" ["old", "new"] (spChkP D) f1 fd1) :
    FnOk P w K mg base (L2.CX P w) 6 f fd ["self", "old", "new"] (spInit2 C "_old" "_new" D (okv shortB) newB2 "old" "new") := by
  refine F.okX scIEvery (fun vs H Q E h => ?_) (fun cdv A outer s H vs Q E hr h => ?_)
  · obtain ⟨a, dx, u, v, rfl, _⟩ := h
    rfl
  · obtain ⟨a, dx, u, v, rfl, ha, tw⟩ := h
    refine ⟨_, pss_cons (by exact (ps_expr (pe_call M.ok hr rfl M.m M.k M.b .nil (passes_call (takes_of rfl rfl rfl rfl) (fun _ _ _ _ h => h)) (pa_cons (pv 1) (pa_cons (pv 2) pa_nil))))) (pss_cons (by exact (ps_fld (pv 0) (pv 1) rfl)) (pss_one (by exact (ps_fld (pv 0) (pv 2) rfl)))), ?_⟩
    refine ⟨_, rfl, _, rfl, u, v, rfl, tw.imp fun q H1 s1 => ⟨_, rfl, _, rfl, a, C, dx, [], rfl, s1 _ _ ha, T.cls, T.one, by decide, ?_⟩⟩
    refine ⟨_, rfl, _, rfl, a, C, dx, _, rfl, upd_same, T.cls, T.oth, (by show 1 < 1000; decide), ?_⟩
    rw [upd_upd]
    exact q _ upd_same (But.same_put s1)
abbrev sISwap : Stmt := cb 17 0
theorem scISwap : FnScope ["self", "letters", "others"] ["self", "letters", "others"] (defScope sISwap) := ⟨rfl, rfl, rfl, by decide +kernel, rfl, by decide +kernel, by decide +kernel⟩
theorem ok_ISwap {f f1 f2 f3 C D fI : Addr} {fd fd1 fd2 fd3 fdI : FuncData} (F : Fun K "__init__" "Swap.__init__" sISwap f fd) (T : C2 K C "_letters" "_others") (L : PkT mg t1 t2 t3 t4) (X : ErrAt P w K mg base D fI fdI) (M : CallOf P w K mg base 3 "is_word" ["value"] (spAny1 K wordB) f1 fd1)
    (N : CallOf P w K mg base 1 "are_different" ["line"] spDiffT f2 fd2) (O : CallOf P w K mg base 2 "is_line" ["value"] (spAny1 K lineB) f3 fd3) :
    FnOk P w K mg base (L2.CX P w) 6 f fd ["self", "letters", "others"] (spInit2 C "_letters" "_others" D (okv letB) othB "letters" "others") := by
  refine F.okX scISwap (fun vs H Q E h => ?_) (fun cdv A outer s H vs Q E hr h => ?_)
  · obtain ⟨a, dx, u, v, rfl, _⟩ := h
    rfl
  · obtain ⟨a, dx, x, y, rfl, ha, hx, hy, q1, q2, q3⟩ := h
    have hr1 : Room 1 _ := hr.mono (by decide)
    have hr2 : Room 2 _ := hr.mono (by decide)
    have hr3 : Room 3 _ := hr.mono (by decide)
    refine ⟨_, pss_cons (by exact (ps_if (PW.pt (pw_or (pt_not (pt_val (pe_call M.ok hr3 rfl M.m M.k M.b .nil pass0 (pa_cons (pv 1) pa_nil)))) (pw_or1 (pt_not (pt_val (pe_call N.ok hr1 rfl N.m N.k N.b .nil pass0 (pa_cons (pv 1) pa_nil)))))))
        (pss_one (ps_raise rfl (takes_of rfl rfl rfl rfl) (pmk_oex X.T X.i X.ty X.ok hr2 X.b .nil pass0 rfl X.m (pa_cons pe_str pa_nil)))) pss_nil)) (
      pss_cons (by exact (ps_if (PW.pt (pw_or (pt_not (pt_val (pe_call O.ok hr2 rfl O.m O.k O.b .nil pass0 (pa_cons (pv 2) pa_nil)))) (pw_or1 (pt_cmpR op_ne (pe_callB call_len_str (by rfl) L.len PySem.boot_len (pa_cons (pv 2) pa_nil)) (pe_callB call_len_str (by rfl) L.len PySem.boot_len (pa_cons (pv 1) pa_nil)) (nomark _)))))
        (pss_one (ps_raise rfl (takes_of rfl rfl rfl rfl) (pmk_oex X.T X.i X.ty X.ok hr2 X.b .nil pass0 rfl X.m (pa_cons pe_str pa_nil)))) pss_nil)) (
      pss_cons (by exact (ps_fld (pv 0) (pv 1) rfl)) (pss_one (by exact (ps_fld (pv 0) (pv 2) rfl))))), ?_⟩
    refine ⟨_, rfl, x, rfl, hx, fun H1 s1 => ⟨_, rfl, ?_⟩⟩
    cases e1 : okv wordB x with
    | false => exact iteT (rd_raise X.T X.no ((q2 (letB_no e1)).later s1))
    | true =>
      obtain ⟨z, rfl, wz⟩ := okv_text e1
      have lz := hx.short
      refine iteF ⟨_, rfl, z, rfl, lz, _, rfl, ?_⟩
      cases nd : decide (cod z).Nodup with
      | false => exact iteT (rd_raise X.T X.no ((q2 (by show (wordB z && decide (cod z).Nodup) = false; rw [nd, Bool.and_false])).later s1))
      | true =>
        have lok : okv letB (.str z) = true := by
          show (wordB z && decide (cod z).Nodup) = true
          rw [wz, nd]
          rfl
        refine iteF ⟨_, rfl, y, rfl, hy.same s1, fun H2 s2 => ⟨_, rfl, ?_⟩⟩
        have s3 := s1.trans s2
        cases e2 : okv lineB y with
        | false => exact iteT (rd_raise X.T X.no ((q3 lok (othB_no e2)).later s3))
        | true =>
          obtain ⟨o, rfl, lo⟩ := okv_text e2
          have lo4 := hy.short
          refine iteF ⟨_, rfl, o, rfl, Nat.le_trans (Nat.le_of_lt lo4) (by decide), _, rfl, z, rfl, Nat.le_trans (Nat.le_of_lt lz) (by decide), rfl, _, rfl, ?_⟩
          by_cases h : o.length = z.length
          · have ok : othB (.str z) (.str o) = true := by
              show (lineB o && decide (o.length = z.length)) = true
              rw [lo, decide_eq_true h]
              rfl
            rw [decide_eq_true (show V.int (o.length : Int) = V.int (z.length : Int) by rw [h])]
            refine iteF ⟨_, rfl, _, rfl, a, C, dx, [], rfl, s3 _ _ ha, T.cls, T.one, by decide, ?_⟩
            refine ⟨_, rfl, _, rfl, a, C, dx, _, rfl, upd_same, T.cls, T.oth, (by show 1 < 1000; decide), ?_⟩
            rw [upd_upd]
            exact q1 lok ok _ upd_same (But.same_put s3)
          · have no : othB (.str z) (.str o) = false := by
              show (lineB o && decide (o.length = z.length)) = false
              rw [decide_eq_false h, Bool.and_false]
            rw [decide_eq_false (fun q => h (by injection q with q; omega))]
            exact iteT (rd_raise X.T X.no ((q3 lok no).later s3))
end
end LA
end
section
set_option Elab.async false
set_option linter.all false
set_option maxRecDepth 100000
set_option maxHeartbeats 4100000
namespace XD
open PySem
/-! ### a run has one end: what two readings of it say holds of the same end -/
theorem runs_det {M : Model} {Γ : Ctx} {p : Pos} {t : Sem Fin} {fs : List Frame} {s s1 : Shared} {e1 : End} (h1 : Runs M Γ p t fs s e1 s1) :
    ∀ {e2 : End} {s2 : Shared}, Runs M Γ p t fs s e2 s2 → e1 = e2 ∧ s1 = s2 := by
  induction h1 with
  | done => intro e2 s2 h2; cases h2; exact ⟨rfl, rfl⟩
  | raise => intro e2 s2 h2; cases h2; exact ⟨rfl, rfl⟩
  | again _ _ ih => intro e2 s2 h2; cases h2 with | again _ h => exact ih h
  | rule _ ih => intro e2 s2 h2; cases h2 with | rule h => exact ih h
  | «at» _ ih => intro e2 s2 h2; cases h2 with | «at» h => exact ih h
  | load ho _ ih => intro e2 s2 h2; cases h2 with | load ho' h => rw [ho] at ho'; cases ho'; exact ih h
  | update _ _ ih => intro e2 s2 h2; cases h2 with | update _ h => exact ih h
  | loadIfAlive _ ih => intro e2 s2 h2; cases h2 with | loadIfAlive h => exact ih h
  | point _ ih => intro e2 s2 h2; cases h2 with | point h => exact ih h
  | alloc _ ih => intro e2 s2 h2; cases h2 with | alloc h => exact ih h
  | fresh _ ih => intro e2 s2 h2; cases h2 with | fresh h => exact ih h
  | ask _ ih => intro e2 s2 h2; cases h2 with | ask h => exact ih h
  | choose _ _ ih => intro e2 s2 h2; cases h2 with | choose _ h => exact ih h
  | os _ ih => intro e2 s2 h2; cases h2 with | os h => exact ih h
  | handled _ ih => intro e2 s2 h2; cases h2 with | handled h => exact ih h
  | genState hg _ ih => intro e2 s2 h2; cases h2 with | genState hg' h => rw [hg] at hg'; cases hg'; exact ih h
  | stack _ ih => intro e2 s2 h2; cases h2 with | stack h => exact ih h
  | thread _ ih => intro e2 s2 h2; cases h2 with | thread h => exact ih h
  | newGen _ ih => intro e2 s2 h2; cases h2 with | newGen h => exact ih h
  | call _ _ ih1 ih2 =>
    intro e2 s2 h2
    cases h2 with
    | call a b =>
      obtain ⟨q1, q2⟩ := ih1 a
      cases q1
      subst q2
      exact ih2 b
    | callSusp a =>
      obtain ⟨q1, _⟩ := ih1 a
      cases q1
  | callSusp _ ih1 =>
    intro e2 s2 h2
    cases h2 with
    | call a b =>
      obtain ⟨q1, _⟩ := ih1 a
      cases q1
    | callSusp a =>
      obtain ⟨q1, q2⟩ := ih1 a
      cases q1
      exact ⟨rfl, q2⟩
  | yield => intro e2 s2 h2; cases h2; exact ⟨rfl, rfl⟩
  | resumeFresh hg _ _ _ ih1 ih2 =>
    intro e2 s2 h2
    cases h2 with
    | resumeFresh hg' a q b =>
      rw [hg] at hg'; cases hg'
      obtain ⟨q1, q2⟩ := ih1 a
      subst q1
      subst q2
      exact ih2 b
    | resumeSuspended hg' _ _ _ => rw [hg] at hg'; cases hg'
    | resumeJustStarted _ hv _ => exact absurd rfl hv
    | resumeRunning hg' _ => rw [hg] at hg'; cases hg'
    | resumeFinished hg' _ => rw [hg] at hg'; cases hg'
  | resumeSuspended hg _ _ _ ih1 ih2 =>
    intro e2 s2 h2
    cases h2 with
    | resumeFresh hg' _ _ _ => rw [hg] at hg'; cases hg'
    | resumeSuspended hg' a q b =>
      rw [hg] at hg'; cases hg'
      obtain ⟨q1, q2⟩ := ih1 a
      subst q1
      subst q2
      exact ih2 b
    | resumeJustStarted hg' _ _ => rw [hg] at hg'; cases hg'
    | resumeThrowFresh hg' _ => rw [hg] at hg'; cases hg'
    | resumeRunning hg' _ => rw [hg] at hg'; cases hg'
    | resumeFinished hg' _ => rw [hg] at hg'; cases hg'
  | resumeJustStarted hg hv _ ih =>
    intro e2 s2 h2
    cases h2 with
    | resumeFresh hg' _ _ _ => exact absurd rfl hv
    | resumeSuspended hg' _ _ _ => rw [hg] at hg'; cases hg'
    | resumeJustStarted _ _ h => exact ih h
    | resumeRunning hg' _ => rw [hg] at hg'; cases hg'
    | resumeFinished hg' _ => rw [hg] at hg'; cases hg'
  | resumeThrowFresh hg _ ih =>
    intro e2 s2 h2
    cases h2 with
    | resumeSuspended hg' _ _ _ => rw [hg] at hg'; cases hg'
    | resumeThrowFresh _ h => exact ih h
    | resumeRunning hg' _ => rw [hg] at hg'; cases hg'
    | resumeFinished hg' _ => rw [hg] at hg'; cases hg'
  | resumeRunning hg _ ih =>
    intro e2 s2 h2
    cases h2 with
    | resumeFresh hg' _ _ _ => rw [hg] at hg'; cases hg'
    | resumeSuspended hg' _ _ _ => rw [hg] at hg'; cases hg'
    | resumeJustStarted hg' _ _ => rw [hg] at hg'; cases hg'
    | resumeThrowFresh hg' _ => rw [hg] at hg'; cases hg'
    | resumeRunning _ h => exact ih h
    | resumeFinished hg' _ => rw [hg] at hg'; cases hg'
  | resumeFinished hg _ ih =>
    intro e2 s2 h2
    cases h2 with
    | resumeFresh hg' _ _ _ => rw [hg] at hg'; cases hg'
    | resumeSuspended hg' _ _ _ => rw [hg] at hg'; cases hg'
    | resumeJustStarted hg' _ _ => rw [hg] at hg'; cases hg'
    | resumeThrowFresh hg' _ => rw [hg] at hg'; cases hg'
    | resumeRunning hg' _ => rw [hg] at hg'; cases hg'
    | resumeFinished _ h => exact ih h
  | segRet _ _ ih1 ih2 =>
    intro e2 s2 h2
    cases h2 with
    | segRet a b =>
      obtain ⟨q1, q2⟩ := ih1 a
      cases q1
      subst q2
      exact ih2 b
    | segSuspOut _ a =>
      obtain ⟨q1, _⟩ := ih1 a
      cases q1
    | segSuspGen _ a _ _ =>
      obtain ⟨q1, _⟩ := ih1 a
      cases q1
  | segGen _ _ ih1 ih2 =>
    intro e2 s2 h2
    cases h2 with
    | segGen a b =>
      obtain ⟨q1, q2⟩ := ih1 a
      cases q1
      subst q2
      exact ih2 b
    | segSuspOut _ a =>
      obtain ⟨q1, _⟩ := ih1 a
      cases q1
    | segSuspGen _ a _ _ =>
      obtain ⟨q1, _⟩ := ih1 a
      cases q1
  | segSuspOut hn _ ih1 =>
    intro e2 s2 h2
    cases h2 with
    | segRet a _ =>
      obtain ⟨q1, _⟩ := ih1 a
      cases q1
    | segGen a _ =>
      obtain ⟨q1, _⟩ := ih1 a
      cases q1
    | segSuspOut _ a =>
      obtain ⟨q1, q2⟩ := ih1 a
      cases q1
      exact ⟨rfl, q2⟩
    | segSuspGen hn' _ _ _ => rw [hn] at hn'; cases hn'
  | segSuspGen hn _ _ _ ih1 ih2 =>
    intro e2 s2 h2
    cases h2 with
    | segRet a _ =>
      obtain ⟨q1, _⟩ := ih1 a
      cases q1
    | segGen a _ =>
      obtain ⟨q1, _⟩ := ih1 a
      cases q1
    | segSuspOut hn' _ => rw [hn] at hn'; cases hn'
    | segSuspGen hn' a _ b =>
      rw [hn] at hn'; cases hn'
      obtain ⟨q1, q2⟩ := ih1 a
      cases q1
      subst q2
      exact ih2 b
theorem wakes_det {M : Model} {Γ : Ctx} {p : Pos} {g : Nat} {r : Resume} {s s1 s2 : Shared} {x y : GenResult} (h1 : Wakes M Γ p g r s x s1) (h2 : Wakes M Γ p g r s y s2) : x = y ∧ s1 = s2 := by
  unfold Wakes at h1 h2
  generalize s.gens[g]? = q at h1 h2
  cases q with
  | none => exact h1.elim
  | some q =>
    cases q with
    | fresh c =>
      have fin : ∀ {v : Value}, (x = .justStarted ∧ s1 = s) → (y = .justStarted ∧ s2 = s) → x = y ∧ s1 = s2 := fun a b => ⟨a.1.trans b.1.symm, a.2.trans b.2.symm⟩
      cases r with
      | send v =>
        cases v with
        | none =>
          obtain ⟨e, u, a, _, rfl, rfl⟩ := h1
          obtain ⟨e', u', a', _, rfl, rfl⟩ := h2
          obtain ⟨rfl, rfl⟩ := runs_det a a'
          exact ⟨rfl, rfl⟩
        | _ => exact fin (v := .none) h1 h2
      | throw e => exact ⟨h1.1.trans h2.1.symm, h1.2.trans h2.2.symm⟩
    | suspended k l c p' fs cl =>
      obtain ⟨e, u, a, _, rfl, rfl⟩ := h1
      obtain ⟨e', u', a', _, rfl, rfl⟩ := h2
      obtain ⟨rfl, rfl⟩ := runs_det a a'
      exact ⟨rfl, rfl⟩
    | running => exact ⟨h1.1.trans h2.1.symm, h1.2.trans h2.2.symm⟩
    | finished => exact ⟨h1.1.trans h2.1.symm, h1.2.trans h2.2.symm⟩
theorem wp_and {α : Type} (M : Model) (Γ : Ctx) (t : Sem α) : ∀ (Q Q' : α → Pos → Shared → Prop) (E E' : Value → Pos → Shared → Prop) (p : Pos) (s : Shared), Sem.wp M Γ t Q E p s → Sem.wp M Γ t Q' E' p s →
    Sem.wp M Γ t (fun a p' s' => Q a p' s' ∧ Q' a p' s') (fun e p' s' => E e p' s' ∧ E' e p' s') p s := by
  induction t with
  | pure a => intro Q Q' E E' p s h h'; exact ⟨h, h'⟩
  | raise e => intro Q Q' E E' p s h h'; exact ⟨h, h'⟩
  | unsupported _ => intro Q Q' E E' p s h h'; exact h
  | finish _ => intro Q Q' E E' p s h h'; exact h
  | rule _ k ih => intro Q Q' E E' p s h h'; exact ih () Q Q' E E' p s h h'
  | «at» p' k ih => intro Q Q' E E' p s h h'; exact ih () Q Q' E E' p' s h h'
  | load a _ k ih =>
    intro Q Q' E E' p s h h'
    obtain ⟨o, ho, h⟩ := h
    obtain ⟨o', ho', h'⟩ := h'
    rw [ho] at ho'; cases ho'
    exact ⟨o, ho, ih o Q Q' E E' p s h h'⟩
  | update a _ f k ih => intro Q Q' E E' p s h h'; exact ⟨h.1, ih () Q Q' E E' p _ h.2 h'.2⟩
  | loadIfAlive a k ih => intro Q Q' E E' p s h h'; exact ih _ Q Q' E E' p s h h'
  | point _ k ih => intro Q Q' E E' p s h h'; exact ih () Q Q' E E' p s h h'
  | register _ _ => intro Q Q' E E' p s h h'; exact h
  | alloc o k ih => intro Q Q' E E' p s h h'; exact ih _ Q Q' E E' p _ h h'
  | fresh k ih => intro Q Q' E E' p s h h'; exact ih _ Q Q' E E' p _ h h'
  | ask k ih => intro Q Q' E E' p s h h'; exact ih _ Q Q' E E' p s h h'
  | choose src m k ih => intro Q Q' E E' p s h h'; exact ⟨h.1, ih _ Q Q' E E' p _ h.2 h'.2⟩
  | os q _ k ih => intro Q Q' E E' p s h h'; exact ih _ Q Q' E E' p _ h h'
  | call c hd _ _ k ih =>
    intro Q Q' E E' p s h h'
    obtain ⟨r, s', hr, h⟩ := h
    obtain ⟨r', s'', hr', h'⟩ := h'
    obtain ⟨e1, rfl⟩ := runs_det hr hr'
    cases e1
    exact ⟨r, s', hr, ih r Q Q' E E' p s' h h'⟩
  | handled own k ih => intro Q Q' E E' p s h h'; exact ih _ Q Q' E E' p s h h'
  | genState g k ih =>
    intro Q Q' E E' p s h h'
    obtain ⟨st, hs, h⟩ := h
    obtain ⟨st', hs', h'⟩ := h'
    rw [hs] at hs'; cases hs'
    exact ⟨st, hs, ih _ Q Q' E E' p s h h'⟩
  | newGen c k ih => intro Q Q' E E' p s h h'; exact ih _ Q Q' E E' p _ h h'
  | resume g r _ k ih =>
    intro Q Q' E E' p s h h'
    obtain ⟨res, s', hw, h⟩ := h
    obtain ⟨res', s'', hw', h'⟩ := h'
    obtain ⟨rfl, rfl⟩ := wakes_det hw hw'
    exact ⟨res, s', hw, ih res Q Q' E E' p s' h h'⟩
  | yield _ _ _ _ => intro Q Q' E E' p s h h'; exact h
  | stack k ih => intro Q Q' E E' p s h h'; exact ih _ Q Q' E E' p s h h'
  | fork _ _ => intro Q Q' E E' p s h h'; exact h
  | thread k ih => intro Q Q' E E' p s h h'; exact ih _ Q Q' E E' p s h h'
  | await _ _ _ _ _ => intro Q Q' E E' p s h h'; exact h
/-- two readings of one piece of code -/
theorem wpAny_and {α : Type} {M : Model} {A : Around} {t : Sem α} {Q Q' : α → Shared → Prop} {E E' : Value → Shared → Prop} {s : Shared} (h : wpAny M A t Q E s) (h' : wpAny M A t Q' E' s) :
    wpAny M A t (fun a s' => Q a s' ∧ Q' a s') (fun e s' => E e s' ∧ E' e s') s := fun Γ p hΓ => wp_and M Γ t _ _ _ _ p s (h Γ p hΓ) (h' Γ p hΓ)
theorem codeAny_and {M : Model} {A : Around} {c : Code} {R R' : Result → Shared → Prop} {s : Shared} (h : codeAny M A c R s) (h' : codeAny M A c R' s) : codeAny M A c (fun r s' => R r s' ∧ R' r s') s := fun Γ p hc hΓ => by
  obtain ⟨r, s1, hr, q⟩ := h Γ p hc hΓ
  obtain ⟨r', s2, hr', q'⟩ := h' Γ p hc hΓ
  obtain ⟨e1, rfl⟩ := runs_det hr hr'
  cases e1
  exact ⟨r, s1, hr, q, q'⟩
end XD
end
section
set_option Elab.async false
set_option linter.all false
set_option maxRecDepth 100000
set_option maxHeartbeats 4100000
/-! readings that see the raw values and the state: which token a text has -/
namespace XW
open PySem PySem.Spec PyProof.Rows L2
abbrev St := L2.St
/-- what is wanted of a value, its raw one, the state, the heap -/
abbrev QW := V → Value → Shared → Hp → Prop
abbrev TEW := Shared → St → Hp → QW → Prop
abbrev TAW := Shared → St → Hp → (List V → List Value → Shared → Hp → Prop) → Prop
/-- tokens are given out, the frame's own names stay -/
structure Kp (X : Cx) (s s' : Shared) : Prop where
  tk : s.toks ≤ s'.toks
  fr : ∀ m, s.heap.Ns X.env.locals m → s'.heap.Ns X.env.locals m
theorem Kp.refl {X : Cx} {s : Shared} : Kp X s s := ⟨Nat.le_refl _, fun _ h => h⟩
theorem Kp.trans {X : Cx} {s s1 s2 : Shared} (a : Kp X s s1) (b : Kp X s1 s2) : Kp X s s2 := ⟨Nat.le_trans a.tk b.tk, fun m h => b.fr m (a.fr m h)⟩
structure PEW (X : Cx) (e : Expr) (t : TEW) : Prop where
  run : ∀ (pins : List (Addr × Obj)) (s : Shared) (σ : St) (H : Hp) (Q : QW), Inv X pins σ H s → t s σ H Q →
    wpAny (model X.prog X.w) X.A (eval e X.env) (fun u s' => ∃ v H', Inv X pins σ H' s' ∧ RelV v u ∧ Q v u s' H') X.xe s
structure PAW (X : Cx) (es : List Expr) (t : TAW) : Prop where
  run : ∀ (pos : Pos) (pins : List (Addr × Obj)) (s : Shared) (σ : St) (H : Hp) (Q : List V → List Value → Shared → Hp → Prop), Inv X pins σ H s → t s σ H Q →
    wpAny (model X.prog X.w) X.A (spliced (backTo pos (starEach es X.env))) (fun us s' => ∃ vs H', Inv X pins σ H' s' ∧ Vals vs us ∧ Q vs us s' H') X.xe s
/-- a statement's end -/
structure EndsW where
  nx : Shared → St → Hp → Prop
  rt : QW
abbrev TSW := EndsW → Shared → St → Hp → Prop
def SPW (X : Cx) (pins : List (Addr × Obj)) (D : EndsW) (f : Flow) (s' : Shared) : Prop :=
  match f with
  | .next => ∃ σ' H', Inv X pins σ' H' s' ∧ D.nx s' σ' H'
  | .ret u => ∃ v σ' H', Inv X pins σ' H' s' ∧ RelV v u ∧ D.rt v u s' H'
  | _ => False
structure PSW (X : Cx) (st : Stmt) (t : TSW) : Prop where
  run : ∀ (pins : List (Addr × Obj)) (s : Shared) (σ : St) (H : Hp) (D : EndsW), Inv X pins σ H s → t D s σ H → wpAny (model X.prog X.w) X.A (exec st X.env) (SPW X pins D) X.xe s
structure PSsW (X : Cx) (st : List Stmt) (t : TSW) : Prop where
  run : ∀ (pins : List (Addr × Obj)) (s : Shared) (σ : St) (H : Hp) (D : EndsW), Inv X pins σ H s → t D s σ H → wpAny (model X.prog X.w) X.A (execs st X.env) (SPW X pins D) X.xe s
section
variable {X : Cx} {e : Expr} {es : List Expr} {st : Stmt} {rest : List Stmt} {pos : Pos}
theorem ns_un {pins : List (Addr × Obj)} {σ : St} {H H' : Hp} {s : Shared} {h' : Heap} (I : Inv X pins σ H s) (u : Un (frs X.stack) [] H H' s.heap h') : ∀ m, s.heap.Ns X.env.locals m → h'.Ns X.env.locals m := by
  intro m ⟨o, es, ep, ho, r⟩
  obtain ⟨sl, hL⟩ := u.any ho I.free (by simp)
  exact ⟨_, es, ep, hL, r⟩
theorem ns_kept {h h' : Heap} {a : Addr} (k : ∀ b u, h.get? b = some u → h'.get? b = some u) : ∀ m, h.Ns a m → h'.Ns a m := fun m n => n.keeps k
/-- a reading that sees no raw values -/
def tOfE (t : TE) : TEW := fun s σ H Q => t σ H fun v H' => ∀ u s', RelV v u → s.toks ≤ s'.toks → Q v u s' H'
theorem PEW.of {t : TE} (h : PE X e t) : PEW X e (tOfE t) := ⟨fun pins s σ H Q I q => wpAny_mono (PySem.wpAny_toks (h.run pins s σ H _ I q)) (fun u s' ⟨hk, v, H', I', r, z⟩ => ⟨v, H', I', r, z u s' r hk⟩) fun _ _ z => z.2⟩
/-- forgetting the raw values -/
theorem PEW.pe {t : TEW} {t' : TE} (h : PEW X e t) (hh : ∀ s σ H Q, t' σ H Q → t s σ H fun v _ _ H' => Q v H') : PE X e t' :=
  ⟨fun pins s σ H Q I q => thn (h.run pins s σ H _ I (hh s σ H Q q)) fun u s' ⟨v, H', I', r, z⟩ => ⟨v, H', I', r, z⟩⟩
def tOfS (t : TS) : TSW := fun D s σ H => t { nx := fun σ' H' => ∀ s', s.toks ≤ s'.toks → D.nx s' σ' H', rt := fun v H' => ∀ u s', RelV v u → s.toks ≤ s'.toks → D.rt v u s' H' } σ H
theorem PSW.of {t : TS} (h : PS X st t) : PSW X st (tOfS t) := ⟨fun pins s σ H D I q => wpAny_mono (PySem.wpAny_toks (h.run pins s σ H _ I q)) (fun f s' ⟨hk, z⟩ => by
  cases f with
  | next =>
    obtain ⟨σ', H', I', q⟩ := z
    exact ⟨σ', H', I', q s' hk⟩
  | ret u =>
    obtain ⟨v, σ', H', I', r, q⟩ := z
    exact ⟨v, σ', H', I', r, q u s' r hk⟩
  | brk =>
    obtain ⟨_, _, _, q⟩ := z
    exact q
  | cont =>
    obtain ⟨_, _, _, q⟩ := z
    exact q) fun _ _ z => z.2⟩
def tNilW : TAW := fun s _ H Q => Q [] [] s H
def tConsW (ta : TEW) (tr : TAW) : TAW := fun s σ H Q => ta s σ H fun x u s1 H1 => tr s1 σ H1 fun xs us s2 H2 => Q (x :: xs) (u :: us) s2 H2
theorem paw_nil : PAW X [] tNilW := ⟨fun _ _ s _ H Q I h => Calls.spliced_nil ⟨[], H, I, .nil, h⟩⟩
theorem paw_cons {te : TEW} {t : TAW} (ha : PEW X e te) (hr : PAW X es t) (hs : starEach (e :: es) X.env = (false, eval e X.env) :: starEach es X.env := by rfl) : PAW X (e :: es) (tConsW te t) := by
  refine ⟨fun pos pins s σ H Q I h => ?_⟩
  rw [hs]
  show wpAny _ _ (spliced ((false, eval e X.env) :: backTo pos (starEach es X.env))) _ _ s
  refine Calls.spliced_cons (thn (ha.run pins s σ H _ I h) fun u s1 ⟨x, H1, I1, r1, q1⟩ => ?_)
  exact thn (hr.run pos pins s1 σ H1 _ I1 q1) fun us s2 ⟨xs, H2, I2, r2, q2⟩ => ⟨x :: xs, H2, I2, .cons r1 r2, q2⟩
def tNextW : TSW := fun D s σ H => D.nx s σ H
def tSeqW (t u : TSW) : TSW := fun D s σ H => t { D with nx := u D } s σ H
theorem pssw_nil : PSsW X [] tNextW := ⟨fun _ _ σ H _ I h => wpAny_execs_nil ⟨σ, H, I, h⟩⟩
theorem pssw_cons {t u : TSW} (h1 : PSW X st t) (h2 : PSsW X rest u) : PSsW X (st :: rest) (tSeqW t u) := by
  refine ⟨fun pins s σ H D I h => ?_⟩
  refine wpAny_execs_cons (thn (h1.run pins s σ H { D with nx := u D } I h) fun f s1 q => ?_)
  cases f with
  | next =>
    obtain ⟨σ', H', I', q⟩ := q
    exact h2.run pins s1 σ' H' D I' q
  | ret v => exact q
  | brk => exact q
  | cont => exact q
theorem pssw_one {t : TSW} (h : PSW X st t) : PSsW X [st] (tSeqW t tNextW) := pssw_cons h pssw_nil
def tRetW (te : TEW) : TSW := fun D s σ H => te s σ H D.rt
theorem psw_ret {te : TEW} (he : PEW X e te) : PSW X (.Return (some e) pos) (tRetW te) := by
  refine ⟨fun pins s σ H D I h => ?_⟩
  exact wpAny_Return_some (thn (he.run pins s σ H _ I h) fun v s1 ⟨x, H1, I1, r1, q1⟩ => ⟨x, σ, H1, I1, r1, q1⟩)
def tDropW (te : TEW) : TSW := fun D s σ H => te s σ H fun _ _ s' H' => D.nx s' σ H'
theorem psw_expr {te : TEW} (he : PEW X e te) (hs : swapsWith e none pos.line X.env = pure false := by rfl) : PSW X (.Expr e pos) (tDropW te) := by
  refine ⟨fun pins s σ H D I h => ?_⟩
  exact wpAny_Expr_any (thn (he.run pins s σ H _ I h) fun v s1 ⟨x, H1, I1, r1, q1⟩ => ⟨σ, H1, I1, q1⟩) I.quiet hs
/-- a local name, raw -/
def tNameW (X : Cx) (i : Nat) (x : Str) : TEW := fun s σ H Q => ∃ v m u, σ[i]? = some (some v) ∧ s.heap.Ns X.env.locals m ∧ m x = some u ∧ (RelV v u → Q v u s H)
theorem ns_inj {h : Heap} {a : Addr} {m m' : Str → Option Value} (x : h.Ns a m) (y : h.Ns a m') (n : Str) : m n = m' n := by
  obtain ⟨o, es, ep, e, d, _, f⟩ := x
  obtain ⟨o', es', ep', e', d', _, f'⟩ := y
  rw [e] at e'; cases e'
  rw [d] at d'; cases d'
  rw [← f n, f' n]
theorem pew_name {i : Nat} {x : Str} (hN : X.N[i]? = some x) (hl : X.env.scope.names.lookup x = some .local) (hd : (x == ("__debug__" : Str)) = false := by decide) : PEW X (.Name x pos) (tNameW X i x) := by
  refine ⟨fun pins s σ H Q I h => ?_⟩
  obtain ⟨v, m, u, hσ, hm, hu, q⟩ := h
  obtain ⟨m', hn, hk⟩ := I.loc
  obtain ⟨u', r, l⟩ := hk i x v hN hσ (.inl hl)
  have e : m' x = some u := (ns_inj hn hm x).trans hu
  rcases l with ⟨_, hm'⟩ | ⟨hk', _⟩
  · rw [e] at hm'; cases hm'
    exact wpAny_Name (wpAny_loadName_local I.ok.kind hl hm hu ⟨v, H, I, r, q r⟩) hd
  · rcases hk' with hk' | hk'
    · have hk' : X.env.scope.names.lookup x = some .cell := hk'
      rw [hl] at hk'; cases hk'
    · have hk' : X.env.scope.names.lookup x = some .free := hk'
      rw [hl] at hk'; cases hk'
/-- a written text: its token is the state's next one -/
def tStrW (X : Cx) (c : Str) : TEW := fun s _ H Q => ∀ s', Kp X s s' → s'.toks = s.toks + 1 → Q (.str c) (.str c s.toks) s' H
theorem pew_str {c : Str} {j : Nat} : PEW X (.Constant (.str c) j pos) (tStrW X c) := ⟨fun _ s _ H _ I h => Calls.Constant_str ⟨.str c, H, I.tok _, ⟨_, rfl⟩, h _ ⟨Nat.le_succ _, fun _ q => q⟩ rfl⟩⟩
def tIntW (X : Cx) (c : Int) : TEW := fun s _ H Q => ∀ t s', Kp X s s' → s.toks < s'.toks → Q (.int c) (.int c t) s' H
theorem pew_int {c : Int} {j : Nat} : PEW X (.Constant (.int c) j pos) (tIntW X c) := ⟨fun _ s _ H _ I h => wpAny_Constant_int ⟨.int c, H, I.tok _, ⟨_, rfl⟩, h _ _ ⟨Nat.le_succ _, fun _ q => q⟩ (Nat.lt_succ_self _)⟩⟩
/-- a written tuple, a list, whose object is known from then on -/
def tTupW (X : Cx) (t : TAW) : TEW := fun s σ H Q => t s σ H fun xs us s1 H1 => xs.length ≤ sizeLine ∧ ∀ p s2, H1 p = none → Kp X s1 s2 → s2.toks = s1.toks →
  Q (.ref p) (.ref p) s2 (upd H1 p (.frz { cls := .type "tuple", data := .seq us.toArray } (.tup xs)))
theorem pew_tup {x1} {t : TAW} (h : PAW X es t) : PEW X (.Tuple es x1 pos) (tTupW X t) := by
  refine ⟨fun pins s σ H Q I hq => ?_⟩
  refine wpAny_Tuple_spliced (thn (h.run pos pins s σ H _ I hq) fun us s1 ⟨xs, H1, I1, r, z, q⟩ => ⟨by rw [← r.length]; exact z, ?_⟩)
  have hf : H1 s1.heap.objs.size = none := I1.hok.fresh (Nat.le_refl _)
  have k : ∀ b u, s1.heap.get? b = some u → (s1.heap.push { cls := .type "tuple", data := .seq us.toArray }).get? b = some u := fun b u e => Heap.get?_push_of_some _ e
  have e := Heap.get?_push_size s1.heap (o := { cls := .type "tuple", data := .seq us.toArray }) rfl
  refine ⟨.ref s1.heap.objs.size, upd H1 s1.heap.objs.size (.frz { cls := .type "tuple", data := .seq us.toArray } (.tup xs)), I1.laid (t' := s1.toks) k (Nat.le_refl _) ⟨e, z, us, r, ⟨_, e, rfl, _, rfl⟩⟩, rfl, q _ _ hf ⟨Nat.le_refl _, ns_kept k⟩ rfl⟩
def tLstW (X : Cx) (t : TAW) : TEW := fun s σ H Q => t s σ H fun xs us s1 H1 => xs.length ≤ sizeLine ∧ ∀ p s2, H1 p = none → Kp X s1 s2 → s2.toks = s1.toks →
  Q (.ref p) (.ref p) s2 (upd H1 p (.frz { cls := .type "list", data := .seq us.toArray } (.lst xs)))
theorem pew_lst {t : TAW} (h : PAW X es t) : PEW X (.List es pos) (tLstW X t) := by
  refine ⟨fun pins s σ H Q I hq => ?_⟩
  refine wpAny_List_spliced (thn (h.run pos pins s σ H _ I hq) fun us s1 ⟨xs, H1, I1, r, z, q⟩ => ⟨by rw [← r.length]; exact z, ?_⟩)
  have hf : H1 s1.heap.objs.size = none := I1.hok.fresh (Nat.le_refl _)
  have k : ∀ b u, s1.heap.get? b = some u → (s1.heap.push { cls := .type "list", data := .seq us.toArray }).get? b = some u := fun b u e => Heap.get?_push_of_some _ e
  have e := Heap.get?_push_size s1.heap (o := { cls := .type "list", data := .seq us.toArray }) rfl
  refine ⟨.ref s1.heap.objs.size, upd H1 s1.heap.objs.size (.frz { cls := .type "list", data := .seq us.toArray } (.lst xs)), I1.laid (t' := s1.toks) k (Nat.le_refl _) ⟨e, z, us, 0, r, e⟩, rfl, q _ _ hf ⟨Nat.le_refl _, ns_kept k⟩ rfl⟩
/-- o[i] where o is a known tuple or list -/
theorem known_tup {pins : List (Addr × Obj)} {σ : St} {H : Hp} {s : Shared} {a : Addr} {us : List Value} {xs : List V} (I : Inv X pins σ H s) (h : H a = some (.frz { cls := .type "tuple", data := .seq us.toArray } (.tup xs))) : IsTup s.heap a us.toArray ∧ Vals xs us ∧ us.length ≤ sizeLine := by
  obtain ⟨e, z, its, r, o, e2, c, n, d⟩ := I.hok a _ h
  rw [e] at e2; cases e2
  injection d with d _
  have d : us = its := by simpa using congrArg Array.toList d
  subst d
  exact ⟨⟨_, e, c, _, rfl⟩, r, by rw [← r.length]; exact z⟩
theorem known_lst {pins : List (Addr × Obj)} {σ : St} {H : Hp} {s : Shared} {a : Addr} {us : List Value} {xs : List V} (I : Inv X pins σ H s) (h : H a = some (.frz { cls := .type "list", data := .seq us.toArray } (.lst xs))) : s.heap.IsList a us.toArray ∧ Vals xs us ∧ us.length ≤ sizeLine := by
  obtain ⟨e, z, its, n, r, e2⟩ := I.hok a _ h
  rw [e] at e2
  injection e2 with e2
  injection e2 with _ _ d _
  injection d with d _
  have d : us = its := by simpa using congrArg Array.toList d
  subst d
  exact ⟨⟨_, e, rfl, _, rfl⟩, r, by rw [← r.length]; exact z⟩
def tIxTW (X : Cx) (te : TEW) (j : Nat) : TEW := fun s σ H Q => te s σ H fun x _ s1 H1 => ∃ (a : Addr) (us : List Value) (xs : List V) (v : V) (u : Value), x = .ref a ∧ H1 a = some (.frz { cls := .type "tuple", data := .seq us.toArray } (.tup xs)) ∧ xs[j]? = some v ∧ us[j]? = some u ∧
  ∀ s2, Kp X s1 s2 → Q v u s2 H1
theorem pew_ixT {te : TEW} {k : Int} {j jc : Nat} {cp : Pos} (he : PEW X e te) (hk : k = (j : Int)) (hj : j < 1000) (hs : PlainIx (.Constant (.int k) jc cp) := by exact fun _ _ => rfl) : PEW X (.Subscript e (.Constant (.int k) jc cp) pos) (tIxTW X te j) := by
  refine ⟨fun pins s σ H Q I h => ?_⟩
  refine Subscript_ (thn (he.run pins s σ H _ I h) fun u s1 ⟨x, H1, I1, rx, a, us, xs, v, w, ex, ha, hx, hu, q⟩ => ?_)
  subst ex
  cases rx
  refine wpAny_Constant_int ?_
  obtain ⟨p, r, z⟩ := known_tup I1 ha
  have hl := r.length
  have hn := line63
  have hj2 : j < us.length := (List.getElem?_eq_some_iff.mp hu).1
  have rv : RelV v w := by
    obtain ⟨w', e1, e2⟩ := r.get hx
    rw [hu] at e1; cases e1
    exact e2
  have fin : ∃ v' H', Inv X pins σ H' { s1 with toks := s1.toks + 1 } ∧ RelV v' w ∧ Q v' w { s1 with toks := s1.toks + 1 } H' := ⟨v, H1, I1.tok _, rv, q _ ⟨Nat.le_succ _, fun _ h => h⟩⟩
  exact subscriptTail_builtinR (s := { s1 with toks := s1.toks + 1 }) (x := w) (IsTup.typeIs (s := { s1 with toks := s1.toks + 1 }) p) slot_tuple_getitem.lookup
    (getItem_tuple (s := { s1 with toks := s1.toks + 1 }) (j := j) (Q := fun r s' => r = w ∧ ∃ v' H', Inv X pins σ H' s' ∧ RelV v' r ∧ Q v' r s' H') p (by omega) (by omega) (by rw [List.size_toArray, seqIndex_of (by omega) (by omega)]; simp [hk]) (by simpa using hu) ⟨rfl, fin⟩) (hs _ _)
end
end XW
end
section
set_option Elab.async false
set_option linter.all false
set_option maxRecDepth 100000
set_option maxHeartbeats 4100000
/-! defs whose promise speaks of raw values and of the state -/
namespace XW
open PySem PySem.Spec PyProof.Rows L2
abbrev SpW := List V → List Value → Shared → Hp → QW → XK → Prop
def CRW (CX : CXT) (outer : List Env) (P : Program) (w : World) (H : Hp) (s : Shared) (Q : QW) (E : XK) (r : Result) (s' : Shared) : Prop :=
  match r with
  | .ok (.ret u) => CE outer P w H s (fun v H' => Q v u s' H') u s'
  | .ok _ => False
  | .error e => CX outer H s E e s'
structure FnRaw (P : Program) (w : World) (K : PySem.W.Frag) (mg : Str → Option Value) (base : Heap) (CX : CXT) (k : Nat) (f : Addr) (fd : FuncData) (ps : List Str) (sp : SpW) : Prop where
  len : ∀ vs us s H Q E, sp vs us s H Q E → vs.length = ps.length
  run : ∀ (A : Around) (outer : List Env) (s : Shared) (H : Hp) (args : Args) (us : List Value) (vs : List V) (Q : QW) (E : XK), Room k A → Env0 P w K mg base A outer s H → BindsTo s fd args (ps.zip us) → Vals vs us → sp vs us s H Q E →
    codeAny (model P w) A (.call (.ref f) args) (CRW CX outer P w H s Q E) s
section
variable {P : Program} {w : World} {K : PySem.W.Frag} {mg : Str → Option Value} {base : Heap} {CX : CXT} {k : Nat} {f : Addr} {fd : FuncData} {ps N : List Str}
theorem FnRaw.mono {sp : SpW} {j : Nat} (F : FnRaw P w K mg base CX j f fd ps sp) (h : j ≤ k) : FnRaw P w K mg base CX k f fd ps sp := ⟨F.len, fun A outer s H args us vs Q E hr => F.run A outer s H args us vs Q E (hr.mono h)⟩
/-- a promise without raw values -/
def spOf (sp : Sp) : SpW := fun vs _ s H Q E => sp vs H (fun v H' => ∀ u s', RelV v u → s.toks ≤ s'.toks → Q v u s' H') E
theorem FnRaw.of {sp : Sp} (F : FnOk P w K mg base CX k f fd ps sp) : FnRaw P w K mg base CX k f fd ps (spOf sp) := by
  refine ⟨fun vs us s H Q E h => F.len _ _ _ _ h, fun A outer s H args us vs Q E hr e0 hb r h => ?_⟩
  refine codeAny_mono (codeAny_toks_of (Nat.le_refl s.toks) (F.run A outer s H args us vs _ E hr e0 hb r h)) fun r s' ⟨hk, hq⟩ => ?_
  cases r with
  | error e => exact hq
  | ok fl =>
    cases fl with
    | ret u =>
      obtain ⟨v, H', a, b, c, d, r, q⟩ := hq
      exact ⟨v, H', a, b, c, d, r, q u s' r hk⟩
    | next => exact hq
    | brk => exact hq
    | cont => exact hq
/-- .. and back -/
theorem FnRaw.ok {sp : Sp} {spw : SpW} (F : FnRaw P w K mg base CX k f fd ps spw) (hl : ∀ vs H Q E, sp vs H Q E → vs.length = ps.length) (h : ∀ vs us s H Q E, Vals vs us → sp vs H Q E → spw vs us s H (fun v _ _ H' => Q v H') E) : FnOk P w K mg base CX k f fd ps sp := by
  refine ⟨hl, fun A outer s H args us vs Q E hr e0 hb r q => ?_⟩
  refine codeAny_mono (F.run A outer s H args us vs _ E hr e0 hb r (h _ us s _ _ _ r q)) fun r s' hq => ?_
  cases r with
  | error e => exact hq
  | ok fl =>
    cases fl with
    | ret u => exact hq
    | next => exact hq
    | brk => exact hq
    | cont => exact hq
/-- what is known of the state as a def's body begins -/
structure Begun (s s1 : Shared) (ps : List Str) (us : List Value) (sc : Scope) : Prop where
  tk : s.toks ≤ s1.toks
  keep : ∀ b o, s.heap.get? b = some o → s1.heap.get? b = some o
  ns : ∃ m, s1.heap.Ns s.heap.objs.size m ∧ ∀ (i : Nat) (x : Str) (u : Value), ps[i]? = some x → us[i]? = some u → sc.names.lookup x = some .local → m x = some u
theorem fn_raw {name qual : Str} {params : Arguments} {body : List Stmt} {scope : Scope} {dV kV doc pm cdv ct oc : Value} {an od : Option Addr} {osl : Array (Option Value)} {sp : SpW}
    (lk : K.lookup f = some ⟨oc, od, .func (PySem.W.fnOf name qual params body scope dV kV doc pm an cdv ct), osl⟩) (hcd : PySem.W.codeIn K cdv qual = true) (S : FnScope N ps scope)
    (len : ∀ vs us s H Q E, sp vs us s H Q E → vs.length = ps.length)
    (hbody : ∀ (A : Around) (outer : List Env) (s s1 : Shared) (H : Hp) (us : List Value) (vs : List V) (Q : QW) (E : XK), Room k (A.deeper (envOfC qual scope s.heap.objs.size f cdv)) → Begun s s1 ps us scope → Vals vs us → sp vs us s H Q E →
      ∃ t, PSsW (cxOf CX P w K mg base N qual scope f cdv A outer s H E) body t ∧ t { nx := fun s' _ H' => Q .non .none s' H', rt := Q } s1 (start N vs) H) :
    FnRaw P w K mg base CX (k + 1) f (PySem.W.fnOf name qual params body scope dV kV doc pm an cdv ct) ps sp := by
  refine ⟨len, fun A outer s H args us vs Q E hr e0 hb r hsp => ?_⟩
  have hl := len _ _ _ _ _ _ hsp
  have KX : K.In s.heap := e0.mod.kin.keeps fun b o e => (e0.bs b o e).1
  have lim : s.heap.NoLimit := e0.mod.nolimit.keeps fun b o e => (e0.bs b o e).1
  have hkind : ∀ y ∈ ps.zip us, scope.names.lookup y.1 = some .local ∨ (scope.names.lookup y.1 = some .cell ∧ ((cellsFrom (s.heap.objs.size + 1) scope.names []).lookup y.1).isSome = true) := fun ⟨n, v⟩ hy => by
    rcases S.par n (List.of_mem_zip hy).1 with q | q
    · exact .inl q
    · exact .inr ⟨q, PySem.W.cellsFrom_some _ _ _ (.inl q)⟩
  have ndP : ps.Nodup := by rw [← S.pre]; exact S.nd.sublist (List.take_sublist _ _)
  refine codeAny_call_function hr.depth (KX _ _ lk) rfl S.co S.gen rfl (PySem.W.codeRec_of KX hcd) (hb _ _ _ _ ?_)
  refine wpAny_with_toks (Nat.le_refl _) (wpAny_newFunctionEnv_cells S.kind hkind fun env he s1 x tk => ?_)
  subst he
  refine ⟨lim.keeps x.toInCall.keep, codeAny_func ?_⟩
  have beg : Begun s s1 ps us scope := ⟨tk, x.toInCall.keep, _, x.toInCall.ns, fun i y u h1 h2 h3 => bindL_get ndP h1 h2 h3⟩
  obtain ⟨t, ht, hq⟩ := hbody A outer s s1 H us vs Q E (hr.deeper _) beg r hsp
  have I : Inv (cxOf CX P w K mg base N qual scope f cdv A outer s H E) [] (start N vs) H s1 := inv_start S hr.hd e0 hl r x
  refine wpAny_mono (ht.run [] s1 (start N vs) H _ I hq) (fun fl s' hs => ?_) fun e s' hs => hs
  have fin : ∀ {σ' : St} {H' : Hp} {v : V} {u : Value}, Inv (cxOf CX P w K mg base N qual scope f cdv A outer s H E) [] σ' H' s' → RelV v u → Q v u s' H' → CE outer P w H s (fun v H' => Q v u s' H') u s' :=
    fun {σ' H' v u} J rv q => ⟨v, H', J.os, J.bare, J.base, J.hok, rv, q⟩
  cases fl with
  | ret u =>
    obtain ⟨v, σ', H', J, rv, q⟩ := hs
    exact fin J rv q
  | next =>
    obtain ⟨σ', H', J, q⟩ := hs
    exact fin (v := V.non) (u := Value.none) J rfl q
  | brk => exact False.elim hs
  | cont => exact False.elim hs
theorem PSsW.nox {X : Cx} {st : List Stmt} {t : TSW} (h : PSsW X.nox st t) : PSsW X st t := ⟨fun pins s σ H D I hw =>
  wpAny_mono (h.run pins s σ H D (I.wish _) hw) (fun f s' q => by
    cases f with
    | next => obtain ⟨σ', H', I, q⟩ := q; exact ⟨σ', H', I.unwish, q⟩
    | brk => exact q
    | cont => exact q
    | ret u => obtain ⟨v, σ', H', I, r, q⟩ := q; exact ⟨v, σ', H', I.unwish, r, q⟩) fun _ _ z => False.elim z⟩
/-- a def that raises nothing -/
theorem fun_raw {x qual : Str} {st : Stmt} {sp : SpW} (F : Fun K x qual st f fd) (S : FnScope N ps (defScope st)) (len : ∀ vs us s H Q E, sp vs us s H Q E → vs.length = ps.length)
    (hbody : ∀ (cdv : Value) (A : Around) (outer : List Env) (s s1 : Shared) (H : Hp) (us : List Value) (vs : List V) (Q : QW) (E : XK), Room k (A.deeper (envOfC qual (defScope st) s.heap.objs.size f cdv)) → Begun s s1 ps us (defScope st) → Vals vs us → sp vs us s H Q E →
      ∃ t, PSsW (cxOf CX0 P w K mg base N qual (defScope st) f cdv A outer s H E).nox (defBody st) t ∧ t { nx := fun s' _ H' => Q .non .none s' H', rt := Q } s1 (start N vs) H) : FnRaw P w K mg base CX0 (k + 1) f fd ps sp := by
  obtain ⟨oc, od, kV, doc, pm, an, cdv, ct, osl, rfl, lk, hcd⟩ := F.ex
  refine fn_raw lk hcd S len fun A outer s s1 H us vs Q E hr b r hsp => ?_
  obtain ⟨t, h, q⟩ := hbody cdv A outer s s1 H us vs Q E hr b r hsp
  exact ⟨t, h.nox, q⟩
/-- .. that may raise -/
theorem fun_rawX {x qual : Str} {st : Stmt} {sp : SpW} (F : Fun K x qual st f fd) (S : FnScope N ps (defScope st)) (len : ∀ vs us s H Q E, sp vs us s H Q E → vs.length = ps.length)
    (hbody : ∀ (cdv : Value) (A : Around) (outer : List Env) (s s1 : Shared) (H : Hp) (us : List Value) (vs : List V) (Q : QW) (E : XK), Room k (A.deeper (envOfC qual (defScope st) s.heap.objs.size f cdv)) → Begun s s1 ps us (defScope st) → Vals vs us → sp vs us s H Q E →
      ∃ t, PSsW (cxOf (L2.CX P w) P w K mg base N qual (defScope st) f cdv A outer s H E) (defBody st) t ∧ t { nx := fun s' _ H' => Q .non .none s' H', rt := Q } s1 (start N vs) H) : FnRaw P w K mg base (L2.CX P w) (k + 1) f fd ps sp := by
  obtain ⟨oc, od, kV, doc, pm, an, cdv, ct, osl, rfl, lk, hcd⟩ := F.ex
  exact fn_raw lk hcd S len fun A outer s s1 H us vs Q E hr b r hsp => hbody cdv A outer s s1 H us vs Q E hr b r hsp
end
section
variable {X : Cx} {CX : CXT} {k : Nat} {f C : Addr} {fd : FuncData} {ps : List Str} {sp : SpW} {E : XK} {x m : Str} {p pos apos : Pos} {e : Expr} {es : List Expr} {ta : TEW} {t : TAW}
def EPW (X : Cx) (pins : List (Addr × Obj)) (σ : St) (Q : QW) (u : Value) (s' : Shared) : Prop := ∃ v H', Inv X pins σ H' s' ∧ RelV v u ∧ Q v u s' H'
theorem after_raw {pins : List (Addr × Obj)} {σ : St} {H : Hp} {s s' : Shared} {Q : QW} {u : Value} (I : Inv X pins σ H s) (hk : s.toks ≤ s'.toks) (h : CE X.stack X.prog X.w H s (fun v H' => Kp X s s' → Q v u s' H') u s') : EPW X pins σ Q u s' := by
  have fr : ∀ m, s.heap.Ns X.env.locals m → s'.heap.Ns X.env.locals m := by
    obtain ⟨v, H', _, _, un, _⟩ := h
    exact ns_un I un
  obtain ⟨v, H', J, r, q⟩ := I.after h
  exact ⟨v, H', J, r, q ⟨hk, fr⟩⟩
theorem run_raw {pins : List (Addr × Obj)} {σ : St} {H : Hp} {s : Shared} {Q : QW} {us : List Value} {vs : List V} (F : FnRaw X.prog X.w X.K X.mg X.base CX k f fd ps sp) (hr : Room k X.A) (hb : Binds X.K fd ps []) (hx : Passes CX X E)
    (I : Inv X pins σ H s) (r : Vals vs us) (h : sp vs us s H (fun v u s' H' => Kp X s s' → Q v u s' H') E) : wpAny (model X.prog X.w) X.A (call (.ref f) us) (EPW X pins σ Q) X.xe s := by
  have hl : (us ++ []).length = ps.length := by rw [List.append_nil, ← r.length]; exact F.len _ _ _ _ _ _ h
  have hb' := hb s us I.kIn hl
  rw [List.append_nil] at hb'
  refine wpAny_call (codeAny_mono (codeAny_toks_of (Nat.le_refl s.toks) (F.run X.A X.stack s H ⟨us, []⟩ us vs _ E hr I.env0 hb' r h)) fun r s' ⟨hk, hq⟩ => ?_)
  cases r with
  | error e => exact hx pins σ H s e s' I hq
  | ok fl =>
    cases fl with
    | ret u => exact after_raw I hk hq
    | next => exact False.elim hq
    | brk => exact False.elim hq
    | cont => exact False.elim hq
/-- f(e, ..): the arguments' raw values and the state are handed on -/
def tCallW (X : Cx) (sp : SpW) (E : XK) (t : TAW) : TEW := fun s σ H Q => t s σ H fun vs us s1 H1 => sp vs us s1 H1 (fun v u s2 H2 => Kp X s1 s2 → Q v u s2 H2) E
theorem pew_call (F : FnRaw X.prog X.w X.K X.mg X.base CX k f fd ps sp) (hr : Room k X.A) (hg : Gl X x) (hm : X.mg x = some (.ref f)) (hk : PySem.W.keepIn X.K (.ref f) = true) (hb : Binds X.K fd ps []) (hx : Passes CX X E)
    (ha : PAW X (e :: es) t) (hdb : (x == ("__debug__" : Str)) = false := by decide) (he : starEach (e :: es) X.env = (false, eval e X.env) :: starEach es X.env := by rfl) (hpl : (backTo pos (starEach es X.env)).any (·.1) = false := by rfl) :
    PEW X (.Call (.Name x p) (e :: es) [] pos) (tCallW X sp E t) := by
  refine ⟨fun pins s σ H Q I h => ?_⟩
  refine wpAny_Call_Name_kw (ld_glob I hg hm ?_ hdb)
  refine PySem.W.callWith_K (h₀ := X.base) I.ok.mod.kin hk (thn (ha.run pos pins s σ H _ I h) fun us s1 ⟨vs, H1, I1, r, q⟩ => ⟨I1.kIn, ?_⟩) he hpl
  exact run_raw F hr hb hx I1 r q
/-- C(e, ..): the maker sees the raw arguments -/
def tMakeW (X : Cx) (C : Addr) (sp : SpW) (E : XK) (t : TAW) : TEW := fun s σ H Q => t s σ H fun vs us s1 H1 => ∀ a dx s2, H1 a = none → H1 dx = none → dx ≠ a → s1.toks ≤ s2.toks →
  sp (.ref a :: vs) (.ref a :: us) s2 (upd (upd H1 dx (.own a)) a (.ins C dx [])) (fun v _ s3 H3 => v = .non ∧ ∀ s4, s3.toks ≤ s4.toks → Q (.ref a) (.ref a) s4 H3) E
theorem pew_make (M : Mk X.K C f) (F : FnRaw X.prog X.w X.K X.mg X.base CX k f fd ps sp) (hr : Room (k + 1) X.A) (hg : Gl X x) (hm : X.mg x = some (.ref C)) (hb : Binds X.K fd ps []) (hx : Passes CX X E)
    (ha : PAW X (e :: es) t) (hdb : (x == ("__debug__" : Str)) = false := by decide) (he : starEach (e :: es) X.env = (false, eval e X.env) :: starEach es X.env := by rfl) (hpl : (backTo pos (starEach es X.env)).any (·.1) = false := by rfl) :
    PEW X (.Call (.Name x p) (e :: es) [] pos) (tMakeW X C sp E t) := by
  refine ⟨fun pins s σ H Q I h => ?_⟩
  refine wpAny_Call_Name_kw (ld_glob I hg hm ?_ hdb)
  refine PySem.W.callWith_K (h₀ := X.base) I.ok.mod.kin M.kp (thn (ha.run pos pins s σ H _ I h) fun us s1 ⟨vs, H1, I1, r, q⟩ => ⟨I1.kIn, ?_⟩) he hpl
  have hq := q (s1.heap.objs.size + 1) s1.heap.objs.size { s1 with heap := (s1.heap.push PySem.W.emptyDict).push (PySem.W.instObj C s1.heap.objs.size) } (I1.hok.fresh (Nat.le_succ _)) (I1.hok.fresh (Nat.le_refl _)) (Nat.ne_of_lt (Nat.lt_succ_self _)) (Nat.le_refl _)
  have I2 := Inv.made (C := C) I1
  have r2 : Vals (V.ref (s1.heap.objs.size + 1) :: vs) (Value.ref (s1.heap.objs.size + 1) :: us) := .cons rfl r
  have hl : ((Value.ref (s1.heap.objs.size + 1) :: us) ++ []).length = ps.length := by
    have e := r2.length
    rw [F.len _ _ _ _ _ _ hq] at e
    rw [List.append_nil]
    exact e.symm
  have hb' := hb _ (Value.ref (s1.heap.objs.size + 1) :: us) I2.kIn hl
  rw [List.append_nil] at hb'
  refine wpAny_call (make_map (f := f) I1.kIn M.makes M.init (beq_iff_eq.mp M.fn) (codeAny_mono (F.run _ X.stack _ _ ⟨Value.ref (s1.heap.objs.size + 1) :: us, []⟩ (Value.ref (s1.heap.objs.size + 1) :: us) _ _ E (hr.make C us [])
    (I2.env0.make C us []) hb' r2 hq) fun r s' hq' => ?_))
  cases r with
  | error e => exact hx pins σ _ _ e s' I2 hq'
  | ok fl =>
    cases fl with
    | ret u =>
      obtain ⟨v, H', I3, rv, ev, q3⟩ := I2.after hq'
      subst ev
      exact ⟨rv, ⟨V.ref (s1.heap.objs.size + 1), H', I3, rfl, q3 _ (Nat.le_refl _)⟩⟩
    | next => exact False.elim hq'
    | brk => exact False.elim hq'
    | cont => exact False.elim hq'
end
end XW
end
section
set_option Elab.async false
set_option linter.all false
set_option maxRecDepth 100000
set_option maxHeartbeats 4100000
/-! str.replace over texts whose tokens are out, with and without a count of one -/
namespace XW
open PySem PySem.Spec PyProof.Rows L2 Builtin Builtin.Str
/-- text.replace(y, z) with at most n places -/
def replN (n : Nat) (x y z : Str) : Str :=
  if ((occurrences x y 0 x.length n).isEmpty || (y.length == 0 && z.length == 0)) = true then x else glued z (partsBetween x (occurrences x y 0 x.length n) y.length)
/-- two tokens of texts that are out -/
structure TkOk (y z : Str) (u v : Tok) : Prop where
  l : u ≠ 0
  r : v ≠ 0
  eq : u = v → y = z
theorem replN_self (n : Nat) (x y : Str) : replN n x y y = x := by
  unfold replN
  split
  · rfl
  · exact StrLaws.glued_between_self x y _
theorem replN_all (x y z : Str) : replN (x.length + 1) x y z = Txt.replace x y z := rfl
theorem occ_le (x y : Str) (n : Nat) (h : n ≤ x.length + 1) : (occurrences x y 0 x.length n).length ≤ n := StrLaws.occ_length_le x y 0 x.length n
theorem isSame_same (y z : Str) (u : Tok) (h : u ≠ 0) : isSame (.str y u) (.str z u) = pure true := by
  show (if (u == 0 || u == 0) = true then _ else if (u == u) = true then pure true else _ : Sem Bool) = _
  have h0 : (u == 0 || u == 0) = false := by simp [h]
  rw [h0]
  simp
theorem gives_repl (x y z : Str) (t u v : Tok) (n : Nat) (B : Sem Fin)
    (hB : B = (if ((occurrences x y 0 x.length n).isEmpty || (y.length == 0 && z.length == 0)) = true then (do rule "str.replace.nothing"; ret (.str x t)) else
          (do let same ← isSame (.str y u) (.str z v)
              if same = true then (do rule "str.replace.old-is-new"; ret (.str x t)) else
              if tooLong (x.length + (occurrences x y 0 x.length n).length * z.length) = true then unsupported "str.replace:memory" else
              retStr (glued z (partsBetween x (occurrences x y 0 x.length n) y.length)))))
    (hn : n ≤ x.length + 1) (hb : x.length + (x.length + 1) * z.length ≤ 16777216) (k : TkOk y z u v) :
    GivesAt (fun s => NoneBooked s.heap) B (if ((occurrences x y 0 x.length n).isEmpty || (y.length == 0 && z.length == 0)) = true then .val (.str x t)
       else if u = v then .val (.str x t) else if (y == z) = true then .either (.val (.str x t)) (.str (replN n x y z)) else .str (replN n x y z)) := by
  have hl : tooLong (x.length + (occurrences x y 0 x.length n).length * z.length) = false := by
    have h1 := occ_le x y n hn
    have h2 : (occurrences x y 0 x.length n).length * z.length ≤ (x.length + 1) * z.length := Nat.mul_le_mul_right _ (by omega)
    unfold tooLong sizeLine
    exact decide_eq_false (by omega)
  have h0 : (u == 0 || v == 0) = false := by simp [k.l, k.r]
  subst hB
  cases hc : ((occurrences x y 0 x.length n).isEmpty || (y.length == 0 && z.length == 0))
  · have er : replN n x y z = glued z (partsBetween x (occurrences x y 0 x.length n) y.length) := by unfold replN; rw [hc, if_neg Bool.false_ne_true]
    rw [er]
    by_cases huv : u = v
    · subst huv
      rw [isSame_same y z u k.l]
      simp only [Bool.false_eq_true, if_false, if_true]
      exact Gives.at (.rule (.of_eq rfl))
    · cases hyz : (y == z)
      · rw [isSame_str_other y z u v h0 (by simp [huv]) hyz, hl]
        simp only [Bool.false_eq_true, if_false, huv]
        exact Gives.at (.of_eq rfl)
      · simp only [Bool.false_eq_true, if_false, huv, if_true]
        intro prog w A R s hb hq
        show wpAny _ _ (isSame (.str y u) (.str z v) >>= _) _ _ _
        refine wpAny_bind (wpAny_isSame_str h0 hb fun b => ?_)
        cases b
        · show wpAny _ _ (if tooLong (x.length + (occurrences x y 0 x.length n).length * z.length) = true then _
                           else retStr (glued z (partsBetween x (occurrences x y 0 x.length n) y.length))) _ _ _
          rw [hl]
          exact wpAny_bind (wpAny_mkStr (wpAny_pure hq.2.2) hq.2.1)
        · exact wpAny_bind (wpAny_rule (wpAny_pure hq.1))
  · simp only [if_true]
    exact Gives.at (.rule (.of_eq rfl))
section
variable {prog : Program} {w : World} {A : Around} {E : Value → Shared → Prop} {s : Shared} {x y z : Str} {t u v : Tok} {Q : Value → Shared → Prop}
theorem fits_repl (n : Nat) (hn : n ≤ x.length + 1) (hb : x.length + (x.length + 1) * z.length ≤ 16777216) (hc : ((occurrences x y 0 x.length n).isEmpty || (y.length == 0 && z.length == 0)) = false) :
    (replN n x y z).length ≤ sizeLine := by
  have er : replN n x y z = glued z (partsBetween x (occurrences x y 0 x.length n) y.length) := by unfold replN; rw [hc, if_neg Bool.false_ne_true]
  rw [er]
  have h1 := occ_le x y n hn
  have hy : (Builtin.Str.glued y (Builtin.Str.partsBetween x (Builtin.Str.occurrences x y 0 x.length n) y.length)).length = x.length := by rw [StrLaws.glued_between_self]
  rw [size_glued, length_partsBetween, Nat.add_sub_cancel] at hy
  rw [size_glued, length_partsBetween, Nat.add_sub_cancel, sizeLine_eq]
  have h2 : (Builtin.Str.occurrences x y 0 x.length n).length * z.length ≤ (x.length + 1) * z.length := Nat.mul_le_mul_right _ (by omega)
  omega
theorem post_repl (n : Nat) (hn : n ≤ x.length + 1) (hb : x.length + (x.length + 1) * z.length ≤ 16777216) (k : TkOk y z u v) (hq : ∀ t' k, Q (.str (replN n x y z) t') { s with toks := k }) :
    Made.post (if ((occurrences x y 0 x.length n).isEmpty || (y.length == 0 && z.length == 0)) = true then .val (.str x t)
       else if u = v then .val (.str x t) else if (y == z) = true then .either (.val (.str x t)) (.str (replN n x y z)) else .str (replN n x y z)) Q s := by
  cases hc : ((occurrences x y 0 x.length n).isEmpty || (y.length == 0 && z.length == 0))
  · have fit := fits_repl (x := x) (y := y) (z := z) n hn hb hc
    simp only [Bool.false_eq_true, if_false]
    by_cases huv : u = v
    · rw [if_pos huv]
      have e := k.eq huv
      subst e
      rw [replN_self] at hq
      exact hq t s.toks
    · rw [if_neg huv]
      cases hyz : (y == z)
      · simp only [Bool.false_eq_true, if_false]
        exact ⟨fit, hq _ _⟩
      · simp only [if_true]
        have e : y = z := eq_of_beq hyz
        subst e
        rw [replN_self] at hq fit ⊢
        exact ⟨hq t s.toks, fit, hq _ _⟩
  · simp only [if_true]
    have er : replN n x y z = x := by unfold replN; rw [hc, if_pos rfl]
    rw [er] at hq
    exact hq t s.toks
theorem repl_all (k : TkOk y z u v) (hb : x.length + (x.length + 1) * z.length ≤ 16777216) (hnb : NoneBooked s.heap) (hq : ∀ t' k, Q (.str (Txt.replace x y z) t') { s with toks := k }) :
    wpAny (model prog w) A (call (.builtin "str.replace") [.str x t, .str y u, .str z v]) Q E s :=
  call_givesAt F.slot_str_replace (typeIs_str _ _ _) F.entry_str_replace (F.args_str_replace_3 _ _ _) (gives_repl x y z t u v (x.length + 1) _ rfl (Nat.le_refl _) hb k) hnb (post_repl _ (Nat.le_refl _) hb k hq)
theorem args_repl4 (a b c d : Value) : argsOk "str.replace" ⟨[a, b, c, d], []⟩ := by unfold argsOk; kernel_rfl
/-- .replace(y, z, 1) -/
theorem repl_one {w1 : Tok} (k : TkOk y z u v) (hb : x.length + (x.length + 1) * z.length ≤ 16777216) (hnb : NoneBooked s.heap) (hq : ∀ t' k, Q (.str (replN 1 x y z) t') { s with toks := k }) :
    wpAny (model prog w) A (call (.builtin "str.replace") [.str x t, .str y u, .str z v, .int 1 w1]) Q E s := by
  refine call_givesAt F.slot_str_replace (typeIs_str _ _ _) F.entry_str_replace (args_repl4 _ _ _ _) (gives_repl x y z t u v 1 _ ?_ (by omega) hb k) hnb (post_repl _ (by omega) hb k hq)
  show (do let limit ← countLimit "str.replace" (some (.int 1 w1)) (x.length + 1); _) = _
  rw [countLimit_int "str.replace" 1 w1 (x.length + 1) (by decide)]
  rfl
end
end XW
end
section
set_option Elab.async false
set_option linter.all false
set_option maxRecDepth 100000
set_option maxHeartbeats 4100000
namespace XT
open PySem PySem.Spec PyProof.Rows L2
section
variable {X : Cx}
/-- repr of a truth -/
def rReprB : List V → Hp → VK → Prop := fun xs H Q => ∃ b : Bool, xs = [.bl b] ∧ Q (.str (if b then "True" else "False")) H
theorem call_reprB : CallR X (.builtin "repr") rReprB := by
  intro pins s σ
        H xs us Q I r h
  obtain ⟨b, rfl, q⟩ := h
  obtain ⟨u, rfl, e⟩ := vals1 r
  cases e
  exact PySem.P.repr_of_bool ⟨.str _, H, I.tok _, ⟨_, rfl⟩, q⟩
end
section
variable {X : Cx} {CX : CXT} {k : Nat} {f C : Addr} {fd : FuncData} {ps ks : List Str} {sp : Sp} {E : XK} {m : Str} {apos pos : Pos} {o : Expr} {kws : List Keyword} {ta : TE} {tk : TA} {g : List Value → List Value → List Value} {gV : List V → List V → List V} {pl : Sem Bool}
/-- a method by keywords alone: what it asks -/
def tMethKw (C : Addr) (m : Str) (sp : Sp) (gV : List V → List V → List V) (E : XK) (ta : TE) (tk : TA) : TE := fun σ H Q => ta σ H fun x H1 => ∃ a dx fs, x = .ref a ∧ H1 a = some (.ins C dx fs) ∧ fs.lookup m = none ∧ tk σ H1 fun zs H2 => sp (gV [x] zs) H2 Q E
theorem pe_methKw (he : PE X o ta) (c : Cls X.K C) (hm : Meth X.K C m f) (F : FnOk X.prog X.w X.K X.mg X.base CX k f fd ps sp) (hr : Room k X.A) (hb : KBinds X.K fd ps ks g gV) (hx : Passes CX X E) (hkw : PK X kws tk)
    (hall : (backToKw pos (keywordEach kws X.env)).all (·.1.isSome) = true := by rfl) (hks : (backToKw pos (keywordEach kws X.env)).filterMap (·.1) = ks := by rfl)
    (hpl : ((backTo pos (starEach [] X.env)).any (·.1) || (backToKw pos (keywordEach kws X.env)).any (·.1.isNone)) = false := by rfl)
    (ht : eval (.Call (.Attribute o m apos) [] kws pos) X.env = (do
      let ov ← eval o X.env
      standAt apos.atName
      let (f, first) ← holding [ov] (getMethod ov m pl)
      callWith pos f first (backTo pos (starEach [] X.env)) (backToKw pos (keywordEach kws X.env))) := by rfl) :
    PE X (.Call (.Attribute o m apos) [] kws pos) (tMethKw C m sp gV E ta tk) := by
  refine ⟨fun pins s σ H Q I h => ?_⟩
  refine PySem.W.methodCall_KW (pl := pl) (thn (he.run pins s σ H _ I h) fun u s1 ⟨x, H1, I1, rx, a, dx, fs, ex, ea, l, q⟩ => ?_) ht
  subst ex
  obtain rfl : u = Value.ref a := rx
  refine getmeth_ok I1 ea c hm l ?_
  refine PySem.W.callWith_KW0 (first := [.ref a]) (h₀ := X.base) I.ok.mod.kin hm.kp hall (thn (hkw.run pos pins s1 σ H1 _ I1 q) fun ws s2 ⟨zs, H2, I2, rz, q2⟩ => ⟨I2.kIn, ?_⟩) hpl
  rw [hks]
  exact run_fnk (us := [.ref a]) (vs := [.ref a]) F hr hb hx I2 (.cons rfl .nil) rz q2
end
end XT
end
section
set_option Elab.async false
set_option linter.all false
set_option maxRecDepth 100000
set_option maxHeartbeats 4100000
/-! instances whose dict is known with its raw values -/
namespace XW
open PySem PySem.Spec PyProof.Rows L2 XT XD
def instO (a C dx : Addr) : HO := .ext fun h => h.get? a = some (PySem.W.instObj C dx)
def dictO (dx : Addr) (m : Str → Option Value) : HO := .ext fun h => h.Ns1 dx m
structure RIns (H : Hp) (a C dx : Addr) (m : Str → Option Value) : Prop where
  o : H a = some (instO a C dx)
  d : H dx = some (dictO dx m)
  ne : dx ≠ a
def rawH (H : Hp) (a C dx : Addr) (m : Str → Option Value) : Hp := upd (upd H a (instO a C dx)) dx (dictO dx m)
theorem rawH_ins {H : Hp} {a C dx : Addr} {m : Str → Option Value} (ne : dx ≠ a) : RIns (rawH H a C dx m) a C dx m := ⟨by unfold rawH; rw [upd_ne (Ne.symm ne)]; exact upd_same, upd_same, ne⟩
theorem RIns.keep {H H' : Hp} {a C dx : Addr} {m : Str → Option Value} (r : RIns H a C dx m) (k : ∀ b o, H b = some o → b = a ∨ b = dx → H' b = some o) : RIns H' a C dx m := ⟨k _ _ r.o (.inl rfl), k _ _ r.d (.inr rfl), r.ne⟩
theorem RIns.same {H H' : Hp} {a C dx : Addr} {m : Str → Option Value} (r : RIns H a C dx m) (k : Same H H') : RIns H' a C dx m := r.keep fun b o e _ => k b o e
theorem inst_ok {P : Program} {w : World} {H : Hp} {h : Heap} {a C dx : Addr} (e : h.get? a = some (PySem.W.instObj C dx)) : ObjOk P w H h a (instO a C dx) :=
  ⟨e, ⟨_, e⟩, fun h1 h2 p k => k _ p⟩
theorem dict_ok {P : Program} {w : World} {H : Hp} {h : Heap} {dx : Addr} {m : Str → Option Value} (e : h.Ns1 dx m) : ObjOk P w H h dx (dictO dx m) :=
  ⟨e, let ⟨o, _, _, q, _⟩ := e; ⟨o, q⟩, fun h1 h2 p k => Heap.Ns1.at p k⟩
theorem RIns.obj {P : Program} {w : World} {H : Hp} {h : Heap} {a C dx : Addr} {m : Str → Option Value} (r : RIns H a C dx m) (hok : HOk P w H h) : ObjM h a dx C m := by
  have e1 := hok a _ r.o
  have e2 := hok dx _ r.d
  exact ⟨e1.1, e2.1, r.ne⟩
theorem objm_inj {h : Heap} {a dx C : Addr} {m m' : Str → Option Value} (x : ObjM h a dx C m) (y : ObjM h a dx C m') : m = m' := funext fun n => ns_inj x.ns.ns y.ns.ns n
section
variable {X : Cx} {pins : List (Addr × Obj)} {σ : L2.St} {H H' : Hp} {s : Shared} {a C dx : Addr} {m : Str → Option Value} {fs : List (Str × V)}
/-- the same state under another description of two tracked objects -/
theorem Inv.redo (I : Inv X pins σ H s) (ha : H a ≠ none) (hd : H dx ≠ none) (na : ∀ o, H a = some o → (∀ xs, o ≠ .tup xs) ∧ (∀ q u, o ≠ .frz q u) ∧ ∀ ps, o ≠ .tbl ps)
    (nd : ∀ o, H dx = some o → (∀ xs, o ≠ .tup xs) ∧ (∀ q u, o ≠ .frz q u) ∧ ∀ ps, o ≠ .tbl ps) (hH : ∀ b, b ≠ a → b ≠ dx → H' b = H b) (ok : HOk X.prog X.w H' s.heap) : Inv X pins σ H' s := by
  have no : ∀ b, H b = none → H' b = none := fun b e => by
    rw [hH b (fun z => ha (z ▸ e)) (fun z => hd (z ▸ e))]
    exact e
  have kp : ∀ b o, H b = some o → ((∃ xs, o = .tup xs) ∨ (∃ q u, o = .frz q u) ∨ ∃ ps, o = .tbl ps) → H' b = some o := fun b o e k => by
    have h1 : b ≠ a := fun z => by
      subst z
      obtain ⟨x, y, z⟩ := na o e
      rcases k with ⟨xs, k⟩ | ⟨q, u, k⟩ | ⟨ps, k⟩
      · exact x xs k
      · exact y q u k
      · exact z ps k
    have h2 : b ≠ dx := fun z => by
      subst z
      obtain ⟨x, y, z⟩ := nd o e
      rcases k with ⟨xs, k⟩ | ⟨q, u, k⟩ | ⟨ps, k⟩
      · exact x xs k
      · exact y q u k
      · exact z ps k
    rw [hH b h1 h2]
    exact e
  refine ⟨I.ok, I.os, I.bare, ⟨I.base.keep, I.base.slot, fun b o e n x => no b (I.base.free b o e n x), I.base.there, fun b xs e => kp b _ (I.base.tups b xs e) (.inl ⟨_, rfl⟩), fun b o u e => kp b _ (I.base.frzs b o u e) (.inr (.inl ⟨_, _, rfl⟩)), fun b ps e => ?_⟩,
    I.loc, I.cell, no _ I.free, fun x c e => no c (I.freeC x c e), fun p hp => ?_, ok, I.len⟩
  · obtain ⟨more, q⟩ := I.base.tbls b ps e
    exact ⟨more, kp b _ q (.inr (.inr ⟨_, rfl⟩))⟩
  · obtain ⟨e, n, r⟩ := I.pin p hp
    exact ⟨e, no _ n, r⟩
theorem no_ins : ∀ o, H a = some o → H a = some (.ins C dx fs) → (∀ xs, o ≠ .tup xs) ∧ (∀ q u, o ≠ .frz q u) ∧ ∀ ps, o ≠ .tbl ps := fun o e e' => by
  rw [e] at e'; cases e'
  exact ⟨fun _ z => (by cases z), fun _ _ z => (by cases z), fun _ z => (by cases z)⟩
theorem no_own : ∀ o, H dx = some o → H dx = some (.own a) → (∀ xs, o ≠ .tup xs) ∧ (∀ q u, o ≠ .frz q u) ∧ ∀ ps, o ≠ .tbl ps := fun o e e' => by
  rw [e] at e'; cases e'
  exact ⟨fun _ z => (by cases z), fun _ _ z => (by cases z), fun _ z => (by cases z)⟩
theorem no_ext {φ : Heap → Prop} : ∀ o, H a = some o → H a = some (.ext φ) → (∀ xs, o ≠ .tup xs) ∧ (∀ q u, o ≠ .frz q u) ∧ ∀ ps, o ≠ .tbl ps := fun o e e' => by
  rw [e] at e'; cases e'
  exact ⟨fun _ z => (by cases z), fun _ _ z => (by cases z), fun _ z => (by cases z)⟩
/-- an instance is known from now on with its raw values -/
theorem Inv.raw (I : Inv X pins σ H s) (e : H a = some (.ins C dx fs)) (O : ObjM s.heap a dx C m) : Inv X pins σ (rawH H a C dx m) s := by
  obtain ⟨_, _, _, _, _, ho⟩ := ins_get I.hok e
  refine Inv.redo I (by rw [e]; exact fun z => by cases z) (by rw [ho]; exact fun z => by cases z) (fun o q => no_ins o q e) (fun o q => no_own o q ho) (fun b h1 h2 => by unfold rawH; rw [upd_ne h2, upd_ne h1]) fun b o q => ?_
  by_cases hb : b = dx
  · subst hb
    rw [show rawH H a C b m b = some (dictO b m) from upd_same] at q
    cases q
    exact dict_ok O.ns
  by_cases hb2 : b = a
  · subst hb2
    rw [(rawH_ins O.ne).o] at q
    cases q
    exact inst_ok O.obj
  · have q' : H b = some o := by
      unfold rawH at q
      rw [upd_ne hb, upd_ne hb2] at q
      exact q
    refine (I.hok b o q').stay (fun c u _ z => z) (fun c z => ?_) fun c xs z => ?_
    · have c1 : c ≠ a := fun y => by subst y; rw [e] at z; cases z
      have c2 : c ≠ dx := fun y => by subst y; rw [ho] at z; cases z; exact hb2 rfl
      unfold rawH
      rw [upd_ne c2, upd_ne c1]
      exact z
    · have c1 : c ≠ a := fun y => by subst y; rw [e] at z; cases z
      have c2 : c ≠ dx := fun y => by subst y; rw [ho] at z; cases z
      unfold rawH
      rw [upd_ne c2, upd_ne c1]
      exact z
/-- a known instance as any other -/
structure RelF (fs : List (Str × V)) (m : Str → Option Value) : Prop where
  rel : ∀ f, RelO (fs.lookup f) (m f)
  wi : PySem.Within m (fs.map (·.1))
  len : fs.length ≤ 1000
def InsA (H : Hp) (a C dx : Addr) (fs : List (Str × V)) : Prop := H a = some (.ins C dx fs) ∨ ∃ m, RIns H a C dx m ∧ RelF fs m
theorem InsA.same {H H' : Hp} (r : InsA H a C dx fs) (k : Same H H') : InsA H' a C dx fs := by
  rcases r with r | ⟨m, r, q⟩
  · exact .inl (k _ _ r)
  · exact .inr ⟨m, r.same k, q⟩
theorem InsA.view (I : Inv X pins σ H s) (h : InsA H a C dx fs) : ∃ Hd, Inv X pins σ Hd s ∧ Hd a = some (.ins C dx fs) := by
  rcases h with h | ⟨m, r, q⟩
  · exact ⟨H, I, h⟩
  · refine ⟨upd (upd H dx (.own a)) a (.ins C dx fs), ?_, upd_same⟩
    have O := r.obj I.hok
    refine Inv.redo (a := a) (dx := dx) I (by rw [r.o]; exact fun z => by cases z) (by rw [r.d]; exact fun z => by cases z) (fun o e => no_ext o e r.o) (fun o e => no_ext o e r.d) (fun b h1 h2 => by rw [upd_ne h1, upd_ne h2]) fun b o e => ?_
    by_cases hb : b = a
    · subst hb
      rw [upd_same] at e; cases e
      exact ⟨by rw [upd_ne r.ne]; exact upd_same, q.len, r.ne, O.obj, m, O.ns, q.rel, q.wi⟩
    by_cases hb2 : b = dx
    · subst hb2
      rw [upd_ne hb, upd_same] at e; cases e
      obtain ⟨o, _, _, e, _⟩ := O.ns
      exact ⟨o, e⟩
    · rw [upd_ne hb, upd_ne hb2] at e
      refine (I.hok b o e).stay (fun c u _ z => z) (fun c z => ?_) fun c xs z => ?_
      · have c1 : c ≠ a := fun y => by subst y; rw [r.o] at z; cases z
        have c2 : c ≠ dx := fun y => by subst y; rw [r.d] at z; cases z
        rw [upd_ne c1, upd_ne c2]
        exact z
      · have c1 : c ≠ a := fun y => by subst y; rw [r.o] at z; cases z
        have c2 : c ≠ dx := fun y => by subst y; rw [r.d] at z; cases z
        rw [upd_ne c1, upd_ne c2]
        exact z
/-- self.f = value: what lies in the dict then -/
theorem setattr_raw {A : Around} {E : Value → Shared → Prop} {f : Str} {y : V} {u : Value} {Q : Unit → Shared → Prop} (I : Inv X pins σ H s) (e : H a = some (.ins C dx fs)) (c : Cls X.K C) (n : NoAttr X.K C f) (hl : fs.length < 1000) (ry : RelV y u)
    (h : ∀ s' m, ObjM s.heap a dx C m → (∀ f, RelO (fs.lookup f) (m f)) → Inv X pins σ (upd H a (.ins C dx (putF f y fs))) s' → ObjM s'.heap a dx C (fun z => if z = f then some u else m z) → Kp X s s' → Q () s') : wpAny (model X.prog X.w) A (setAttr (.ref a) f u) Q E s := by
  obtain ⟨mA, O, r, wi, _, ho⟩ := ins_get I.hok e
  have hz : (fs.map (·.1)).length ≤ sizeLine := by rw [List.length_map, sizeLine_eq]; omega
  have h1 : wpAny (model X.prog X.w) A (setAttr (.ref a) f u) (fun _ s' => Inv X pins σ (upd H a (.ins C dx (putF f y fs))) s') E s := setattr_ok I e c n hl ry fun s' I' => I'
  have h2 : wpAny (model X.prog X.w) A (setAttr (.ref a) f u) (fun _ s' => ObjM s'.heap a dx C (fun z => if z = f then some u else mA z) ∧ Kp X s s') E s :=
    set_map I.kIn O c.sa c.po n.taker c.hd wi hz fun h' O' sb => ⟨O', ⟨Nat.le_add_right _ 2, fun m hm => by
      obtain ⟨o, es, ep, q, r⟩ := hm
      refine ⟨o, es, ep, (sb.2 _ fun z => ?_).trans q, r⟩
      have fr := I.free
      rw [z, ho] at fr; cases fr⟩⟩
  exact wpAny_mono (wpAny_and h1 h2) (fun _ s' q => h s' mA O r q.1 q.2.1 q.2.2) fun _ _ q => q.1
end
section
variable {X : Cx} {o e value : Expr} {f : Str} {pos pos' : Pos} {ta tv : TEW}
/-- self.f = value -/
def sFldW (X : Cx) (ta tv : TEW) (f : Str) : TSW := fun D s σ H => tv s σ H fun y u s1 H1 => ta s1 σ H1 fun x _ s2 H2 => ∃ (a C dx : Addr) (fs : List (Str × V)), x = .ref a ∧ H2 a = some (.ins C dx fs) ∧ Cls X.K C ∧ NoAttr X.K C f ∧ fs.length < 1000 ∧
  ∀ m s3, ObjM s2.heap a dx C m → (∀ g, RelO (fs.lookup g) (m g)) → ObjM s3.heap a dx C (fun z => if z = f then some u else m z) → Kp X s2 s3 → D.nx s3 σ (upd H2 a (.ins C dx (putF f y fs)))
theorem psw_fld (ha : PEW X o ta) (hv : PEW X value tv) (hs : swapsWith value (some (.Attribute o f pos')) pos.line X.env = pure false := by rfl) : PSW X (.Assign [.Attribute o f pos'] value pos) (sFldW X ta tv f) := by
  refine ⟨fun pins s σ H D I h => ?_⟩
  refine plainObj_wpAny_Assign_Attribute (thn (hv.run pins s σ H _ I h) fun u s1 ⟨y, H1, I1, ry, q⟩ => thn (ha.run pins s1 σ H1 _ I1 q) fun ov s2 ⟨x, H2, I2, rx, a, C, dx, fs, ex, ea, c, n, l, q2⟩ => ?_) hs
  subst ex
  obtain rfl : ov = Value.ref a := rx
  exact setattr_raw I2 ea c n l ry fun s3 m O r I3 O3 k => ⟨σ, _, I3, q2 m s3 O r O3 k⟩
/-- .. the last one: the object is known from then on -/
def sFldR (X : Cx) (ta tv : TEW) (f : Str) : TSW := fun D s σ H => tv s σ H fun y u s1 H1 => ta s1 σ H1 fun x _ s2 H2 => ∃ (a C dx : Addr) (fs : List (Str × V)), x = .ref a ∧ H2 a = some (.ins C dx fs) ∧ Cls X.K C ∧ NoAttr X.K C f ∧ fs.length < 1000 ∧
  ∀ m s3, ObjM s2.heap a dx C m → (∀ g, RelO (fs.lookup g) (m g)) → H2 dx = some (.own a) → dx ≠ a → Kp X s2 s3 → D.nx s3 σ (rawH H2 a C dx (fun z => if z = f then some u else m z))
theorem psw_fldR (ha : PEW X o ta) (hv : PEW X value tv) (hs : swapsWith value (some (.Attribute o f pos')) pos.line X.env = pure false := by rfl) : PSW X (.Assign [.Attribute o f pos'] value pos) (sFldR X ta tv f) := by
  refine ⟨fun pins s σ H D I h => ?_⟩
  refine plainObj_wpAny_Assign_Attribute (thn (hv.run pins s σ H _ I h) fun u s1 ⟨y, H1, I1, ry, q⟩ => thn (ha.run pins s1 σ H1 _ I1 q) fun ov s2 ⟨x, H2, I2, rx, a, C, dx, fs, ex, ea, c, n, l, q2⟩ => ?_) hs
  subst ex
  obtain rfl : ov = Value.ref a := rx
  obtain ⟨_, O0, _, _, _, ho⟩ := ins_get I2.hok ea
  refine setattr_raw I2 ea c n l ry fun s3 m O r I3 O3 k => ⟨σ, rawH H2 a C dx (fun z => if z = f then some u else m z), ?_, q2 m s3 O r ho O.ne k⟩
  have J := Inv.raw I3 upd_same O3
  have e : rawH (upd H2 a (.ins C dx (putF f y fs))) a C dx (fun z => if z = f then some u else m z) = rawH H2 a C dx (fun z => if z = f then some u else m z) := by
    unfold rawH
    rw [upd_upd]
  rw [e] at J
  exact J
/-- e.f of a known instance: the raw value -/
def tFldR (X : Cx) (ta : TEW) (f : Str) : TEW := fun s σ H Q => ta s σ H fun x _ s1 H1 => ∃ (a C dx : Addr) (m : Str → Option Value) (v : V) (u : Value), x = .ref a ∧ RIns H1 a C dx m ∧ Cls X.K C ∧ NoAttr X.K C f ∧ m f = some u ∧ RelV v u ∧
  ∀ s2, Kp X s1 s2 → Q v u s2 H1
theorem pew_fldR (he : PEW X e ta) (hb : attributeBase e f X.env (eval e X.env) = eval e X.env := by rfl) : PEW X (.Attribute e f pos) (tFldR X ta f) := by
  refine ⟨fun pins s σ H Q I h => ?_⟩
  refine attr_of hb (thn (he.run pins s σ H _ I h) fun u s1 ⟨x, H1, I1, rx, a, C, dx, m, v, w, ex, r, c, n, hm, rv, q⟩ => ?_)
  subst ex
  obtain rfl : u = Value.ref a := rx
  exact get_map I1.kIn (r.obj I1.hok) (c.get f) c.hd n hm (handed_of rv) ⟨v, H1, I1.tok _, rv, q _ ⟨Nat.le_succ _, fun _ h => h⟩⟩
/-- e.f of any instance -/
def tFldA (K : PySem.W.Frag) (ta : TE) (f : Str) : TE := fun σ H Q => ta σ H fun x H1 => ∃ a C dx fs v, x = .ref a ∧ InsA H1 a C dx fs ∧ Cls K C ∧ NoAttr K C f ∧ fs.lookup f = some v ∧ Q v H1
theorem pe_fldA {ta : TE} (he : PE X e ta) (hb : attributeBase e f X.env (eval e X.env) = eval e X.env := by rfl) : PE X (.Attribute e f pos) (tFldA X.K ta f) := by
  refine ⟨fun pins s σ H Q I h => ?_⟩
  refine attr_of hb (thn (he.run pins s σ H _ I h) fun u s1 ⟨x, H1, I1, rx, a, C, dx, fs, v, ex, ea, c, n, l, q⟩ => ?_)
  subst ex
  obtain rfl : u = Value.ref a := rx
  obtain ⟨Hd, Id, ed⟩ := ea.view I1
  obtain ⟨mA, O, r, _, _, _⟩ := ins_get Id.hok ed
  obtain ⟨w, hu, ru⟩ := RelO.some_of (v := v) (o := mA f) (by rw [← l]; exact r f)
  exact get_map I1.kIn O (c.get f) c.hd n hu (handed_of ru) ⟨v, H1, I1.tok _, ru, q⟩
end
section
variable {X : Cx} {CX : CXT} {k : Nat} {f C : Addr} {fd : FuncData} {ps ks : List Str} {sp : Sp} {dvs : List V} {ds : List Value} {E : XK} {x m : Str} {p pos apos : Pos} {e o : Expr} {es : List Expr} {kws : List Keyword} {ta : TE} {t tk : TA} {g : List Value → List Value → List Value} {gV : List V → List V → List V}
/-- o.m(e, ..) of any instance -/
def tMethA (C : Addr) (m : Str) (sp : Sp) (dvs : List V) (E : XK) (ta : TE) (t : TA) : TE := fun σ H Q => ta σ H fun x H1 => ∃ a dx fs, x = .ref a ∧ InsA H1 a C dx fs ∧ fs.lookup m = none ∧
  t σ H1 fun vs H2 => sp (x :: (vs ++ dvs)) H2 Q E
theorem pe_methA {pl : Sem Bool} (he : PE X o ta) (c : Cls X.K C) (hm : Meth X.K C m f) (F : FnOk X.prog X.w X.K X.mg X.base CX k f fd ps sp) (hr : Room k X.A) (hb : Binds X.K fd ps ds) (hd : Vals dvs ds) (hx : Passes CX X E) (ha : PA X (e :: es) t)
    (hst : starEach (e :: es) X.env = (false, eval e X.env) :: starEach es X.env := by rfl) (hpl : (backTo pos (starEach es X.env)).any (·.1) = false := by rfl)
    (ht : eval (.Call (.Attribute o m apos) (e :: es) [] pos) X.env = (do
      let ov ← eval o X.env
      standAt apos.atName
      let (f, first) ← holding [ov] (getMethod ov m pl)
      callWith pos f first (backTo pos (starEach (e :: es) X.env)) (backToKw pos (keywordEach [] X.env))) := by rfl) :
    PE X (.Call (.Attribute o m apos) (e :: es) [] pos) (tMethA C m sp dvs E ta t) := by
  refine ⟨fun pins s σ H Q I h => ?_⟩
  refine PySem.W.methodCall_KW (pl := pl) (thn (he.run pins s σ H _ I h) fun u s1 ⟨x, H1, I1, rx, a, dx, fs, ex, ea, l, q⟩ => ?_) ht
  subst ex
  obtain rfl : u = Value.ref a := rx
  obtain ⟨Hd, Id, ed⟩ := ea.view I1
  refine getmeth_ok Id ed c hm l ?_
  refine PySem.W.callWith_K (first := [.ref a]) (h₀ := X.base) I.ok.mod.kin hm.kp (thn (ha.run pos pins s1 σ H1 _ I1 q) fun us s2 ⟨vs, H2, I2, r, q2⟩ => ⟨I2.kIn, ?_⟩) hst hpl
  exact run_fn (us := .ref a :: us) (vs := .ref a :: vs) F hr hb hd hx I2 (.cons rfl r) q2
def tMethKwA (C : Addr) (m : Str) (sp : Sp) (gV : List V → List V → List V) (E : XK) (ta : TE) (tk : TA) : TE := fun σ H Q => ta σ H fun x H1 => ∃ a dx fs, x = .ref a ∧ InsA H1 a C dx fs ∧ fs.lookup m = none ∧ tk σ H1 fun zs H2 => sp (gV [x] zs) H2 Q E
theorem pe_methKwA {pl : Sem Bool} (he : PE X o ta) (c : Cls X.K C) (hm : Meth X.K C m f) (F : FnOk X.prog X.w X.K X.mg X.base CX k f fd ps sp) (hr : Room k X.A) (hb : KBinds X.K fd ps ks g gV) (hx : Passes CX X E) (hkw : PK X kws tk)
    (hall : (backToKw pos (keywordEach kws X.env)).all (·.1.isSome) = true := by rfl) (hks : (backToKw pos (keywordEach kws X.env)).filterMap (·.1) = ks := by rfl)
    (hpl : ((backTo pos (starEach [] X.env)).any (·.1) || (backToKw pos (keywordEach kws X.env)).any (·.1.isNone)) = false := by rfl)
    (ht : eval (.Call (.Attribute o m apos) [] kws pos) X.env = (do
      let ov ← eval o X.env
      standAt apos.atName
      let (f, first) ← holding [ov] (getMethod ov m pl)
      callWith pos f first (backTo pos (starEach [] X.env)) (backToKw pos (keywordEach kws X.env))) := by rfl) :
    PE X (.Call (.Attribute o m apos) [] kws pos) (tMethKwA C m sp gV E ta tk) := by
  refine ⟨fun pins s σ H Q I h => ?_⟩
  refine PySem.W.methodCall_KW (pl := pl) (thn (he.run pins s σ H _ I h) fun u s1 ⟨x, H1, I1, rx, a, dx, fs, ex, ea, l, q⟩ => ?_) ht
  subst ex
  obtain rfl : u = Value.ref a := rx
  obtain ⟨Hd, Id, ed⟩ := ea.view I1
  refine getmeth_ok Id ed c hm l ?_
  refine PySem.W.callWith_KW0 (first := [.ref a]) (h₀ := X.base) I.ok.mod.kin hm.kp hall (thn (hkw.run pos pins s1 σ H1 _ I1 q) fun ws s2 ⟨zs, H2, I2, rz, q2⟩ => ⟨I2.kIn, ?_⟩) hpl
  rw [hks]
  exact run_fnk (us := [.ref a]) (vs := [.ref a]) F hr hb hx I2 (.cons rfl .nil) rz q2
end
/-! ### text.replace(..), its arguments' tokens told -/
section
variable {X : Cx} {o e : Expr} {es : List Expr} {to : TEW} {t : TAW} {apos pos : Pos}
/-- what replacing reads: the texts to be exchanged, told with their tokens -/
def tReplW (to : TEW) (t : TAW) : TE := fun σ H Q => ∀ s, to s σ H fun x _ s1 H1 => ∃ c : Str, x = .str c ∧ t s1 σ H1 fun _ us _ H2 => ∃ (y z : Str) (u v : Tok), us = [.str y u, .str z v] ∧ TkOk y z u v ∧ c.length + (c.length + 1) * z.length ≤ 16777216 ∧ Q (.str (Txt.replace c y z)) H2
def tReplW1 (to : TEW) (t : TAW) : TE := fun σ H Q => ∀ s, to s σ H fun x _ s1 H1 => ∃ c : Str, x = .str c ∧ t s1 σ H1 fun _ us _ H2 => ∃ (y z : Str) (u v w : Tok), us = [.str y u, .str z v, .int 1 w] ∧ TkOk y z u v ∧ c.length + (c.length + 1) * z.length ≤ 16777216 ∧ Q (.str (replN 1 c y z)) H2
theorem repl_call (hb : attributeBase o "replace" X.env (eval o X.env) = eval o X.env) (hline : (apos.endLine == pos.line) = true)
    (hfew : ((backTo pos (starEach (e :: es) X.env)).all (fun x => !x.1) && (backToKw pos (keywordEach [] X.env)).all (fun x => x.1.isSome) && decide ((e :: es).length + ([] : List Keyword).length + (if ([] : List Keyword).isEmpty then 0 else 1) < 30)) = true)
    (he : starEach (e :: es) X.env = (false, eval e X.env) :: starEach es X.env) (hpl : (backTo pos (starEach (e :: es) X.env)).any (·.1) = false) (ho : PEW X o to) (ha : PAW X (e :: es) t) {pins : List (Addr × Obj)} {s : Shared} {σ : L2.St} {H : Hp} {Q : Value → Shared → Prop}
    {R : Str → List Value → Hp → Prop} (I : Inv X pins σ H s) (h : to s σ H fun x _ s1 H1 => ∃ c : Str, x = .str c ∧ t s1 σ H1 fun _ us _ H2 => R c us H2)
    (fin : ∀ (c : Str) (tc : Tok) (us : List Value) (s2 : Shared) (H2 : Hp), Inv X pins σ H2 s2 → R c us H2 → wpAny (model X.prog X.w) X.A (call (.builtin "str.replace") (.str c tc :: us)) Q X.xe s2) :
    wpAny (model X.prog X.w) X.A (eval (.Call (.Attribute o "replace" apos) (e :: es) [] pos) X.env) Q X.xe s := by
  refine PySem.wpAny_Call_method_lateS hb hfew hline (thn (ho.run pins s σ H _ I h) fun ov s1 ⟨x, H1, I1, r1, c, ex, q1⟩ => ?_)
  subst ex
  obtain ⟨tc, rfl⟩ := r1
  refine ⟨"str", _, F.plainAttrs_str, F.slot_str_replace, F.type_str_replace, typeIs_str _ _ _, (fun _ e => nomatch e), Calls.callWith_builtin hpl ?_⟩
  have run := ha.run pos pins s1 σ H1 _ I1 q1
  rw [he] at run ⊢
  exact Calls.evalArgs_plain (thn run fun us s2 ⟨vs, H2, I2, r2, q2⟩ => fin c tc us s2 H2 I2 q2)
theorem none_booked (nb : NoneBooked X.base) {pins : List (Addr × Obj)} {s : Shared} {σ : L2.St} {H : Hp} (I : Inv X pins σ H s) : NoneBooked s.heap := by
  obtain ⟨mc, n, e⟩ := nb
  exact ⟨mc, n.keeps I.bk, e⟩
/-- text.replace(e, e') -/
theorem pe_replW (nb : NoneBooked X.base) (ho : PEW X o to) (ha : PAW X (e :: es) t) (hb : attributeBase o "replace" X.env (eval o X.env) = eval o X.env := by rfl) (hline : (apos.endLine == pos.line) = true := by rfl)
    (hfew : ((backTo pos (starEach (e :: es) X.env)).all (fun x => !x.1) && (backToKw pos (keywordEach [] X.env)).all (fun x => x.1.isSome) && decide ((e :: es).length + ([] : List Keyword).length + (if ([] : List Keyword).isEmpty then 0 else 1) < 30)) = true := by rfl)
    (he : starEach (e :: es) X.env = (false, eval e X.env) :: starEach es X.env := by rfl) (hpl : (backTo pos (starEach (e :: es) X.env)).any (·.1) = false := by rfl) :
    PE X (.Call (.Attribute o "replace" apos) (e :: es) [] pos) (tReplW to t) := by
  refine ⟨fun pins s σ H Q I h => ?_⟩
  refine repl_call (R := fun c us H2 => ∃ (y z : Str) (u v : Tok), us = [.str y u, .str z v] ∧ TkOk y z u v ∧ c.length + (c.length + 1) * z.length ≤ 16777216 ∧ Q (.str (Txt.replace c y z)) H2) hb hline hfew he hpl ho ha I (h s) fun c tc us s2 H2 I2 q => ?_
  obtain ⟨y, z, u, v, rfl, k, b, q⟩ := q
  exact repl_all k b (none_booked nb I2) fun t' n => ⟨.str (Txt.replace c y z), H2, I2.tok n, ⟨t', rfl⟩, q⟩
/-- text.replace(e, e', 1) -/
theorem pe_replW1 (nb : NoneBooked X.base) (ho : PEW X o to) (ha : PAW X (e :: es) t) (hb : attributeBase o "replace" X.env (eval o X.env) = eval o X.env := by rfl) (hline : (apos.endLine == pos.line) = true := by rfl)
    (hfew : ((backTo pos (starEach (e :: es) X.env)).all (fun x => !x.1) && (backToKw pos (keywordEach [] X.env)).all (fun x => x.1.isSome) && decide ((e :: es).length + ([] : List Keyword).length + (if ([] : List Keyword).isEmpty then 0 else 1) < 30)) = true := by rfl)
    (he : starEach (e :: es) X.env = (false, eval e X.env) :: starEach es X.env := by rfl) (hpl : (backTo pos (starEach (e :: es) X.env)).any (·.1) = false := by rfl) :
    PE X (.Call (.Attribute o "replace" apos) (e :: es) [] pos) (tReplW1 to t) := by
  refine ⟨fun pins s σ H Q I h => ?_⟩
  refine repl_call (R := fun c us H2 => ∃ (y z : Str) (u v w : Tok), us = [.str y u, .str z v, .int 1 w] ∧ TkOk y z u v ∧ c.length + (c.length + 1) * z.length ≤ 16777216 ∧ Q (.str (replN 1 c y z)) H2) hb hline hfew he hpl ho ha I (h s) fun c tc us s2 H2 I2 q => ?_
  obtain ⟨y, z, u, v, w, rfl, k, b, q⟩ := q
  exact repl_one k b (none_booked nb I2) fun t' n => ⟨.str (replN 1 c y z), H2, I2.tok n, ⟨t', rfl⟩, q⟩
end
end XW
end
section
set_option Elab.async false
set_option linter.all false
set_option maxRecDepth 100000
set_option maxHeartbeats 4100000
/-! a list of new texts that a comprehension makes, and what joins them -/
namespace XW
open PySem PySem.Spec PyProof.Rows L2 XD
/-- a text of this stretch of tokens -/
def Fr (n N : Nat) (u : Value) : Prop := ∀ x t, u = .str x t → n ≤ t ∧ t < N
theorem Fr.more {n n' N N' : Nat} {u : Value} (h : Fr n N u) (a : n' ≤ n) (b : N ≤ N') : Fr n' N' u := fun x t e => ⟨Nat.le_trans a (h x t e).1, Nat.lt_of_lt_of_le (h x t e).2 b⟩
def lstF (D : Addr) (n N : Nat) (xs : List V) (h : Heap) : Prop := xs.length ≤ sizeLine ∧ ∃ (its : List Value) (k : Nat), Vals xs its ∧ h.get? D = some { cls := .type "list", data := .seq its.toArray k } ∧ ∀ u ∈ its, Fr n N u
def lstO (D : Addr) (n N : Nat) (xs : List V) : HO := .ext (lstF D n N xs)
theorem lst_ok {P : Program} {w : World} {H : Hp} {h : Heap} {D : Addr} {n N : Nat} {xs : List V} (e : lstF D n N xs h) : ObjOk P w H h D (lstO D n N xs) := by
  refine ⟨e, ?_, fun h1 h2 p k => ?_⟩
  · obtain ⟨_, _, _, _, q, _⟩ := e
    exact ⟨_, q⟩
  · obtain ⟨z, its, i, r, q, f⟩ := p
    exact ⟨z, its, i, r, k _ q, f⟩
theorem thnT {α : Type} {t : Sem α} {Q Q' : α → Shared → Prop} {M : Model} {A : Around} {E : Value → Shared → Prop} {s : Shared} (h : wpAny M A t Q (fun _ _ => False) s) (hQ : ∀ a s', s.toks ≤ s'.toks → Q a s' → Q' a s') : wpAny M A t Q' E s :=
  wpAny_mono (PySem.wpAny_toks h) (fun a s' q => hQ a s' q.1 q.2) fun _ _ z => False.elim z.2
theorem app_okW {X : Cx} {pins : List (Addr × Obj)} {σ : L2.St} {H : Hp} {s : Shared} {E : Value → Shared → Prop} {D : Addr} {n N N' : Nat} {xs : List V} {y : V} {v : Value} {Q : Value → Shared → Prop} (I : Inv X pins σ H s) (hD : H D = some (lstO D n N xs)) (hz : xs.length < sizeLine)
    (r : RelV y v) (hN : N ≤ N') (hf : Fr n N' v) (h : ∀ s', s'.toks = s.toks → Inv X pins σ (upd H D (lstO D n N' (xs ++ [y]))) s' → Q .none s') : wpAny (model X.prog X.w) X.A (call (.builtin "list.append") [.ref D, v]) Q E s := by
  obtain ⟨⟨_, its, k, ri, e, fr⟩, _⟩ := I.hok D _ hD
  have hl := ri.length
  refine append_at (hsz := by rw [List.size_toArray]; omega) e fun h' sb ho' => ?_
  refine h { s with heap := h' } rfl (I.write (t' := s.toks) (by rw [hD]; trivial) (.inl rfl) (fun b u hb q => (sb.2 b hb).trans q) ⟨_, ho'⟩ (lst_ok ⟨by rw [List.length_append]; exact hz, its ++ [v], k + 1, ri.append (.cons r .nil), ?_, fun u hu => ?_⟩))
  · rw [ho']
    simp
  · rcases List.mem_append.mp hu with q | q
    · exact (fr u q).more (Nat.le_refl _) hN
    · rw [List.mem_singleton] at q
      exact q ▸ hf
section
variable {X : Cx}
/-- [elt for target in iter], its items new texts: D the list; W by the turn, a measure and the count of tokens -/
def tLcW (wi : TI) (g : TG) (te : TEW) (vs : List Nat) : TEW := fun s σ H Q => wi σ H fun J H1 => ∀ D, H1 D = none → ∃ W : Nat → Nat → Nat → Hp → Prop, (∀ N, s.toks ≤ N → ∃ m, W 0 m N (upd H1 D (lstO D s.toks N []))) ∧ ∀ i m N H, W i m N H →
  (J.stop i H ∧ ∀ s', N ≤ s'.toks → Q (.ref D) (.ref D) s' H) ∨ (J.go i H ∧ ∃ Nx : Nat → Hp → Prop, (∀ N' H', Nx N' H' → ∃ m', m' < m ∧ W (i + 1) m' N' H') ∧ ∀ x H', J.yld i H x H' → g x (wipe σ vs) H' fun σ2 H2 => wipe σ2 vs = wipe σ vs ∧
    ∀ s2, s.toks ≤ s2.toks → N ≤ s2.toks → te s2 σ2 H2 fun y u s4 H4 => ∃ acc, H4 D = some (lstO D s.toks N acc) ∧ acc.length < sizeLine ∧ Fr s.toks s4.toks u ∧ s2.toks ≤ s4.toks ∧ Nx s4.toks (upd H4 D (lstO D s.toks s4.toks (acc ++ [y]))))
theorem pew_lc {elt tg iter : Expr} {scope : Scope} {own : List (Str × Nat)} {pos : Pos} {wi : TI} {g : TG} {te : TEW} (hc : X.calm = true) (hN : X.N.Nodup) (hi : PI X tg iter wi) (ok : BlkOk X.N X.env.scope scope own)
    (hg : ∀ (s : Shared) (H : Hp) (C : Addr) (cl : List (Str × Addr)) (fp : List Addr), PG (X.blk s H scope (compEnvC scope cl C X.env) fp) tg g)
    (he : ∀ (s : Shared) (H : Hp) (C : Addr) (cl : List (Str × Addr)) (fp : List Addr), PEW (X.blk s H scope (compEnvC scope cl C X.env) fp) elt te) (hs : ∀ x, foldedSetIterable iter X.env x = pure x := by intro _; rfl) :
    PEW X (.ListComp elt [⟨tg, iter, [], 0⟩] scope pos) (tLcW wi g te (own.map (·.2))) := by
  refine ⟨fun pins s σ H Q I h => ?_⟩
  rw [eval_ListComp]
  have hfree : ∀ y ∈ scope.names, y.2 = .free → ∃ c, X.env.cells.lookup y.1 = some c := fun y hy e => by
    rcases ok.free y hy e with k | k
    · exact I.ok.has _ (.inl k)
    · exact I.ok.has _ (.inr k)
  refine wpAny_comprehension_free (use := none) rfl hs (closure_ok hfree) ok.kind (fun y hy e => by rw [ok.uniq y hy, e])
    (wpAny_mono (PySem.wpAny_toks (hi.run pins s σ H _ I h)) (fun xv s1 hx => wpAny_mono (PySem.wpAny_toks hx.2) (fun itv s2 h2 => ?_) fun _ _ z => z.2) fun _ _ z => z.2)
  obtain ⟨kt1, hx⟩ := hx
  obtain ⟨kt2, it, fp, tn, J, H2, e, I2, T, st2, f2, q⟩ := h2
  subst e
  have kt : s.toks ≤ s2.toks := Nat.le_trans kt1 kt2
  refine wpAny_newObj_type (newEnv_comp ?_) (by show 0 ≤ sizeLine; decide)
  generalize hD : s2.heap.objs.size = D
  have hDn : H2 D = none := I2.hok.fresh (Nat.le_of_eq hD)
  obtain ⟨W, w00, turn⟩ := q D hDn
  obtain ⟨m0, w0⟩ := w00 s2.toks kt
  generalize hs3 : ({ s2 with heap := s2.heap.push { cls := .type "list", data := .seq ([] : List Value).toArray } } : Shared) = s3
  have h3 : s3.heap = s2.heap.push { cls := .type "list", data := .seq ([] : List Value).toArray } := by rw [← hs3]
  have t3 : s3.toks = s2.toks := by rw [← hs3]
  have I3 : Inv X pins σ (upd H2 D (lstO D s.toks s2.toks [])) s3 := by
    rw [← hs3]
    refine I2.laid (t' := s2.toks) (fun b o e => Heap.get?_push_of_some _ e) (Nat.le_of_eq hD) (lst_ok ⟨Nat.zero_le _, [], 0, .nil, ?_, fun u hu => absurd hu (by simp)⟩)
    rw [← hD]
    exact Heap.get?_push_size _ rfl
  have sz : ∀ b ∈ fp, b < s2.heap.objs.size := fun b hb => by
    obtain ⟨o, e, _⟩ := T.obj _ _ st2 b hb
    exact Heap.lt_size e
  have f3 : ∀ b ∈ fp, FpOk X pins (upd H2 D (lstO D s.toks s2.toks [])) b ∧ b < s3.heap.objs.size := fun b hb => by
    have hlt := sz b hb
    refine ⟨⟨?_, (f2 b hb).2⟩, by rw [h3, Heap.size_push]; exact Nat.lt_succ_of_lt hlt⟩
    rw [upd_ne (by rw [← hD]; exact Nat.ne_of_lt hlt)]
    exact (f2 b hb).1
  have st3 : tn 0 s3.heap := T.keep _ _ _ st2 fun b _ o e => by rw [h3]; exact Heap.get?_push_of_some _ e
  have I4 := block_start I3 ok hN f3
  have pg := hg s3 (upd H2 D (lstO D s.toks s2.toks [])) s3.heap.objs.size (cellsFrom (s3.heap.objs.size + 1) scope.names (cloFrom X.env.cells scope.names [])) fp
  have pe := he s3 (upd H2 D (lstO D s.toks s2.toks [])) s3.heap.objs.size (cellsFrom (s3.heap.objs.size + 1) scope.names (cloFrom X.env.cells scope.names [])) fp
  show codeAny _ _ (.compStart (.ListComp elt [⟨tg, iter, [], 0⟩] scope pos) 0 (.ref it) (.ref D) (compEnvC scope (cellsFrom (s3.heap.objs.size + 1) scope.names (cloFrom X.env.cells scope.names [])) s3.heap.objs.size X.env)) _ { s3 with heap := pushCells (s3.heap.push { cls := .type "dict", data := .dict #[] }) scope.names }
  have nfp : ∀ b ∈ fp, (upd H2 D (lstO D s.toks s2.toks [])) b = none := fun b hb => (f3 b hb).1.1
  generalize hce : compEnvC scope (cellsFrom (s3.heap.objs.size + 1) scope.names (cloFrom X.env.cells scope.names [])) s3.heap.objs.size X.env = ce at I4 pg pe ⊢
  have cL : ce.locals = s3.heap.objs.size := by subst hce; rfl
  generalize hH3 : upd H2 D (lstO D s.toks s2.toks []) = H3 at I3 I4 pg pe w0 nfp f3
  generalize hs4 : ({ s3 with heap := pushCells (s3.heap.push { cls := .type "dict", data := .dict #[] }) scope.names } : Shared) = s4 at I4 ⊢
  have t4 : s4.toks = s2.toks := by rw [← hs4]; exact t3
  have st4 : tn 0 s4.heap := T.keep _ _ _ st3 fun b _ o e => by rw [← hs4]; exact pushCells_keeps _ _ _ _ (Heap.get?_push_of_some _ e)
  have stat : ∀ {σ' : L2.St} {H' : Hp} {s' : Shared}, Inv (X.blk s3 H3 scope ce fp) [] σ' H' s' → (∀ b ∈ fp, H' b = none) → ∀ b ∈ fp, FpOk (X.blk s3 H3 scope ce fp) [] H' b := fun {σ' H' s'} I' hn b hb =>
    ⟨hn b hb, (I'.ok.exf b hb).1, I'.ok.exfs b hb, .inl hb, fun x c e => (I'.ok.exf b hb).2 x c e, fun p hp => absurd (show p ∈ ([] : List (Addr × Obj)) ++ [] from hp) (by simp)⟩
  have loop : codeAny (model X.prog X.w) X.A (.compLoop (.ListComp elt [⟨tg, iter, [], 0⟩] scope pos) 0 (.ref it) (.ref D) ce) (compPost (model X.prog X.w) X.A X.xe none (fun u s' => ∃ v H', Inv X pins σ H' s' ∧ RelV v u ∧ Q v u s' H') (.ref D) s3.heap.objs.size) s4 := by
    refine compLoop_any (fun n s' => ∃ i H' N, Inv (X.blk s3 H3 scope ce fp) [] (wipe σ (own.map (·.2))) H' s' ∧ tn i s'.heap ∧ (∀ b ∈ fp, H' b = none) ∧ N ≤ s'.toks ∧ s.toks ≤ s'.toks ∧ W i n N H') ?_ m0 ⟨0, H3, s2.toks, I4, st4, nfp, Nat.le_of_eq t4.symm, by omega, w0⟩
    rintro n s5 ⟨i, H5, N, I5, st5, n5, kN, kS, w5⟩
    rcases turn i n N H5 w5 with ⟨stop, qq⟩ | ⟨go, Nx, hNx, step⟩
    · have td := T.done (X.blk s3 H3 scope ce fp) rfl rfl rfl hc i [] s5 _ H5 (fun _ _ => False) I5 (stat I5 n5) st5 stop
      refine thnT td fun r s6 k6 ⟨hr, I6⟩ => ?_
      subst hr
      have I7 : Inv X pins σ H5 s6 := I3.call' (ch := fp) I6.os I6.base I6.hok I6.bare fun b hb => ⟨(f3 b hb).1.2.2.2.1, (f3 b hb).1.2.1, (f3 b hb).1.2.2.2.2.1, (f3 b hb).1.2.2.2.2.2⟩
      have nC : H5 s3.heap.objs.size = none := by
        have z : H5 ce.locals = none := I6.free
        rw [cL] at z
        exact z
      obtain ⟨m, hn, _⟩ := I6.loc
      have hn : s6.heap.Ns ce.locals m := hn
      rw [cL] at hn
      have ff := I3.fpOk (H' := H5) (Nat.le_refl _) nC
      obtain ⟨f0, f1, f2, f3, f4, f5⟩ := ff
      exact ⟨m, hn, fun h'' sb => ⟨.ref D, H5, I7.turned (t' := s6.toks) (fun b o hb e => (sb.2 b hb).trans e) f0 f1 f3 f4 f5, rfl, qq _ (Nat.le_trans kN k6)⟩⟩
    · have ti := T.item (X.blk s3 H3 scope ce fp) rfl rfl rfl hc i [] s5 _ H5 (fun _ _ => False) I5 (stat I5 n5) st5 go
      refine thnT ti fun r s6 k6 ⟨u, hr, h6⟩ => ?_
      subst hr
      refine thnT h6 fun _ s7 k7 ⟨x, H7, I7, r7, y7, st7, n7⟩ => ?_
      have I7' := I7.pinned (stat I7 n7) (T.obj _ _ st7)
      refine thnT (pg.run _ s7 _ H7 x u _ I7' r7 (step x H7 y7)) fun _ s8 k8 ⟨σ8, H8, I8, hw8, q8⟩ => ?_
      refine wpAny_tests_nil ?_
      rw [if_pos rfl]
      have fin : ∀ {s' : Shared} {N' : Nat} {H' : Hp}, Inv (X.blk s3 H3 scope ce fp) ([] ++ pinsAt fp s7.heap) σ8 H' s' → N' ≤ s'.toks → s.toks ≤ s'.toks → Nx N' H' → ∃ m, m < n ∧ ∃ i H' N, Inv (X.blk s3 H3 scope ce fp) [] (wipe σ (own.map (·.2))) H' s' ∧ tn i s'.heap ∧ (∀ b ∈ fp, H' b = none) ∧ N ≤ s'.toks ∧ s.toks ≤ s'.toks ∧ W i m N H' := fun {s' N' H'} I' k1 k2 nx => by
        obtain ⟨m', hm, w'⟩ := hNx N' H' nx
        have pin' : ∀ b ∈ fp, ∀ o, s7.heap.get? b = some o → s'.heap.get? b = some o ∧ H' b = none := fun b hb o e =>
          let z := I'.pin (b, o) (List.mem_append_right _ (List.mem_append_right _ (mem_pinsAt hb e)))
          ⟨z.1, z.2.1⟩
        have hl : (wipe σ (own.map (·.2))).length = σ8.length := by rw [← hw8, wipe_length]
        refine ⟨m', hm, i + 1, H', N', (I'.unpinned (pins := [])).weak hl (fun j v e => ?_), T.keep _ _ _ st7 fun b hb o e => (pin' b hb o e).1, fun b hb => ?_, k1, k2, w'⟩
        · rw [← hw8] at e
          exact (wipe_some e).1
        · obtain ⟨o, e, _⟩ := T.obj _ _ st7 b hb
          exact (pin' b hb o e).2
      have kS8 : s.toks ≤ s8.toks := by omega
      have kN8 : N ≤ s8.toks := by omega
      refine thnF (pe.run _ s8 σ8 H8 _ I8 (q8 s8 kS8 kN8)) fun z s10 ⟨yv, H10, I10, r10, acc, hD10, hz10, fr, k10, nx⟩ => ?_
      exact app_okW (X := X.blk s3 H3 scope ce fp) I10 hD10 hz10 r10 (Nat.le_trans kN8 k10) fr fun s11 e11 I11 => fin I11 (Nat.le_of_eq e11.symm) (by omega) nx
  exact codeAny_compStart_list loop (T.self X.A 0 _ _ _ st4 loop)
/-- sep.join(such a list) -/
theorem vals_strs : ∀ {ys : List Str} {its : List Value}, Vals (ys.map V.str) its → ∃ l : List (Str × Tok), its = PySem.strValues l ∧ l.map (·.1) = ys
  | [], _, r => by
    cases r
    exact ⟨[], rfl, rfl⟩
  | y :: ys, _, r => by
    cases r with
    | cons a b =>
      obtain ⟨l, rfl, rfl⟩ := vals_strs b
      obtain ⟨t, rfl⟩ := a
      exact ⟨(y, t) :: l, rfl, rfl⟩
theorem join_raw {prog : Program} {w : World} {A : Around} {E : Value → Shared → Prop} {s : Shared} {x : Str} {t : Tok} {Q : Value → Shared → Prop} {D : Addr} {l : List (Str × Tok)} {n N : Nat} (hl : s.heap.IsList D (PySem.strValues l).toArray) (hok : JoinOk x (l.map (·.1)) = true)
    (fr : ∀ u ∈ PySem.strValues l, Fr n N u) (hn : n ≤ s.toks) (hN : N ≤ s.toks) (hq : ∀ t' k, n ≤ t' → t' < k → s.toks ≤ k → Q (.str (Txt.join x (l.map (·.1))) t') { s with toks := k }) : wpAny (model prog w) A (call (.builtin "str.join") [.str x t, .ref D]) Q E s := by
  have fit := joinFit_length (sep := x) (texts := l.map (·.1))
  unfold JoinOk at hok
  rw [Bool.not_eq_true'] at hok
  refine call_meets F.slot_str_join (typeIs_str _ _ _) F.entry_str_join (F.args_str_join_2 _ _) (meets_str_join_list x t D l hok) ⟨hl, ?_⟩
  match l, fit, hok, fr, hq with
  | [], fit, hok, fr, hq => exact ⟨fit hok, hq _ _ hn (Nat.lt_succ_self _) (Nat.le_succ _)⟩
  | [p], fit, hok, fr, hq =>
    obtain ⟨a, b⟩ := fr (.str p.1 p.2) (by simp [PySem.strValues]) _ _ rfl
    exact hq p.2 s.toks a (Nat.lt_of_lt_of_le b hN) (Nat.le_refl _)
  | p :: q :: r, fit, hok, fr, hq => exact ⟨fit hok, hq _ _ hn (Nat.lt_succ_self _) (Nat.le_succ _)⟩
def tJoinW (to te : TEW) : TEW := fun s σ H Q => to s σ H fun x _ s1 H1 => ∃ a : Str, x = .str a ∧ te s1 σ H1 fun y _ s2 H2 => ∃ (D : Addr) (n N : Nat) (ys : List Str), y = .ref D ∧ H2 D = some (lstO D n N (ys.map V.str)) ∧ (ys.map (·.length)).sum + ys.length * a.length ≤ 16777216 ∧
  n ≤ s2.toks ∧ N ≤ s2.toks ∧ ∀ t s3, n ≤ t → t < s3.toks → s2.toks ≤ s3.toks → Q (.str (Txt.join a ys)) (.str (Txt.join a ys) t) s3 H2
theorem pew_join {o e : Expr} {to te : TEW} {apos pos : Pos} (ho : PEW X o to) (he : PEW X e te) (hst : starEach [e] X.env = [(false, eval e X.env)] := by rfl) (hbase : attributeBase o "join" X.env (eval o X.env) = eval o X.env := by rfl) (hline : (apos.endLine == pos.line) = true := by rfl) :
    PEW X (.Call (.Attribute o "join" apos) [e] [] pos) (tJoinW to te) := by
  refine ⟨fun pins s σ H Q I h => ?_⟩
  refine PySem.Call_method1 hbase hst hline (thn (ho.run pins s σ H _ I h) fun ov s1 ⟨x, H1, I1, r1, a, ex, q1⟩ => ?_)
  subst ex
  obtain ⟨ta, rfl⟩ := r1
  refine ⟨"str", _, PySem.F.plainAttrs_str, PySem.F.slot_str_join, PySem.F.type_str_join, typeIs_str _ _ _, (fun _ e => nomatch e), Calls.callWith_builtin rfl (Calls.evalArgs_plain (Calls.spliced_cons ?_))⟩
  refine thn (he.run pins s1 σ H1 _ I1 q1) fun u s2 ⟨y, H2, I2, r2, D, n, N, ys, ey, hD, hz, kn, kN, q2⟩ => Calls.spliced_nil ?_
  subst ey
  cases r2
  obtain ⟨⟨_, its, k, ri, e, fr⟩, _⟩ := I2.hok D _ hD
  obtain ⟨l, rfl, rfl⟩ := vals_strs ri
  exact join_raw ⟨_, e, rfl, _, rfl⟩ (joinOk_of hz) fr kn kN fun t' k' a b c => ⟨.str _, H2, I2.tok _, ⟨t', rfl⟩, q2 t' _ a b c⟩
end
end XW
end
section
set_option Elab.async false
set_option linter.all false
set_option maxRecDepth 100000
set_option maxHeartbeats 4100000
/-! items, names stored: raw -/
namespace XW
open PySem PySem.Spec PyProof.Rows L2 XD
section
variable {X : Cx} {a b e : Expr} {ta tb te : TEW} {pos : Pos}
/-- text[i]: a new text -/
def tIxSW (X : Cx) (ta tb : TEW) : TEW := fun s σ H Q => ta s σ H fun x _ s1 H1 => tb s1 σ H1 fun y _ s2 H2 => ∃ (z : Str) (i : Int) (c : Nat), x = .str z ∧ y = .int i ∧ z.length ≤ sizeLine ∧ atI z.cps.toList i = some c ∧
  ∀ s3, Kp X s2 s3 → s3.toks = s2.toks + 1 → Q (.str ⟨#[c]⟩) (.str ⟨#[c]⟩ s2.toks) s3 H2
theorem pew_ixS (ha : PEW X a ta) (hb : PEW X b tb) (hs : PlainIx b) : PEW X (.Subscript a b pos) (tIxSW X ta tb) := by
  refine ⟨fun pins s σ H Q I h => ?_⟩
  refine Subscript_ (thn (ha.run pins s σ H _ I h) fun v s1 ⟨x, H1, I1, rx, q1⟩ => thn (hb.run pins s1 σ H1 _ I1 q1) fun u s2 ⟨y, H2, I2, ry, z, i, c, ex, ey, hz, he, q⟩ => ?_)
  subst ex
  subst ey
  obtain ⟨t, rfl⟩ := rx
  obtain ⟨t', rfl⟩ := ry
  obtain ⟨j, h1, h2, h3, h4, h5⟩ := atI_get he
  have hl : z.cps.toList.length = z.length := by simp [Str.length]
  rw [hl] at h1 h4 h5
  have hn := line63
  exact tail_any (typeIs_str s2 z t) slot_str_getitem.lookup (getItem_str (c := c) (by
    have e1 : decide (i < -(2 ^ 63 : Int)) = false := decide_eq_false (by omega)
    have e2 : decide (i ≥ 2 ^ 63) = false := decide_eq_false (by omega)
    rw [e1, e2, Bool.or_false]) (by rw [h1]; simpa using h2) ⟨.str ⟨#[c]⟩, H2, I2.tok _, ⟨_, rfl⟩, q _ ⟨Nat.le_succ _, fun _ h => h⟩ rfl⟩) (hs _ _)
/-- list[i], the list known: its raw item -/
def tIxLW (ta tb : TEW) : TEW := fun s σ H Q => ta s σ H fun x _ s1 H1 => tb s1 σ H1 fun y _ s2 H2 => ∃ (l : Addr) (us : List Value) (xs : List V) (j : Nat) (v : V) (u : Value), x = .ref l ∧ y = .int (j : Int) ∧ H2 l = some (.frz { cls := .type "list", data := .seq us.toArray } (.lst xs)) ∧ xs[j]? = some v ∧ us[j]? = some u ∧ Q v u s2 H2
theorem pew_ixL (ha : PEW X a ta) (hb : PEW X b tb) (hs : PlainIx b) : PEW X (.Subscript a b pos) (tIxLW ta tb) := by
  refine ⟨fun pins s σ H Q I h => ?_⟩
  refine Subscript_ (thn (ha.run pins s σ H _ I h) fun v s1 ⟨x, H1, I1, rx, q1⟩ => thn (hb.run pins s1 σ H1 _ I1 q1) fun u s2 ⟨y, H2, I2, ry, l, us, xs, j, v', u', ex, ey, hl, hx, hu, q⟩ => ?_)
  subst ex
  subst ey
  cases rx
  obtain ⟨t', rfl⟩ := ry
  obtain ⟨p, r, z⟩ := known_lst I2 hl
  have hn := line63
  have hj2 : j < us.length := (List.getElem?_eq_some_iff.mp hu).1
  have rv : RelV v' u' := by
    obtain ⟨w', e1, e2⟩ := r.get hx
    rw [hu] at e1; cases e1
    exact e2
  have fin : ∃ v H', Inv X pins σ H' s2 ∧ RelV v u' ∧ Q v u' s2 H' := ⟨v', H2, I2, rv, q⟩
  exact item_listR p (by omega) (by omega) (by simpa using hu) fin (hs _ _)
/-- name = e, the name a local: what lies in the frame then -/
def tSetW (X : Cx) (i : Nat) (x : Str) (te : TEW) : TSW := fun D s σ H => te s σ H fun v u s1 H1 => ∀ s2, s1.toks ≤ s2.toks → (∀ m, s1.heap.Ns X.env.locals m → s2.heap.Ns X.env.locals (fun y => if y = x then some u else m y)) → D.nx s2 (σ.set i (some v)) H1
theorem psw_set {i : Nat} {x : Str} {pos' : Pos} (hN : X.N.Nodup) (hi : X.N[i]? = some x) (hl : X.env.scope.names.lookup x = some .local) (hk : X.env.scope.kind = .function) (he : PEW X e te) (hs : swapsWith e (some (.Name x pos')) pos.line X.env = pure false := by rfl) :
    PSW X (.Assign [.Name x pos'] e pos) (tSetW X i x te) := by
  refine ⟨fun pins s σ H D I h => ?_⟩
  refine wpAny_Assign_Name (thn (he.run pins s σ H _ I h) fun u s1 ⟨v, H1, I1, r1, q1⟩ => ?_) hs
  obtain ⟨m, hn, _⟩ := id I1.loc
  have hcls : (X.env.scope.kind == .class || (X.env.scope.kind == .module && X.env.locals != X.env.globals)) = false := by rw [hk]; rfl
  have h1 : wpAny (model X.prog X.w) X.A (storeName X.env x u) (fun _ s2 => Inv X pins (σ.set i (some v)) H1 s2) X.xe s1 := store_ok I1 hN hi (.inl hl) r1 (fun s2 I2 => I2) (.inr hl)
  have h2 : wpAny (model X.prog X.w) X.A (storeName X.env x u) (fun _ s2 => s1.toks ≤ s2.toks ∧ s2.heap.Ns X.env.locals (fun y => if y = x then some u else m y)) X.xe s1 :=
    wpAny_storeName_local hl hn (fun h' hn' _ => ⟨Nat.le_succ _, hn'⟩) hcls
  refine wpAny_mono (wpAny_and h1 h2) (fun _ s2 q => ⟨σ.set i (some v), H1, q.1, q1 s2 q.2.1 fun m' hm' => ?_⟩) fun _ _ q => q.1
  have e : m' = m := funext fun n => ns_inj hm' hn n
  rw [e]
  exact q.2.2
/-- if over a test that is seen without raw values, the frame kept -/
structure PTW (X : Cx) (e : Expr) (t : Shared → L2.St → Hp → (Bool → Shared → Hp → Prop) → Prop) : Prop where
  run : ∀ (pins : List (Addr × Obj)) (s : Shared) (σ : L2.St) (H : Hp) (Q : Bool → Shared → Hp → Prop), Inv X pins σ H s → t s σ H Q → wpAny (model X.prog X.w) X.A (isTrue e X.env (eval e X.env)) (fun b s' => ∃ H', Inv X pins σ H' s' ∧ Q b s' H') X.xe s
end
end XW
namespace XW
open PySem PySem.Spec PyProof.Rows L2 XD
section
variable {X : Cx} {CX : CXT} {k : Nat} {f : Addr} {fd : FuncData} {ps : List Str} {sp : SpW} {E : XK} {x : Str} {p pos : Pos} {e : Expr} {es : List Expr} {t : TAW}
/-- a reading asks for less -/
theorem PEW.imp {e : Expr} {t t' : TEW} (h : PEW X e t) (hh : ∀ s σ H Q, t' s σ H Q → t s σ H Q) : PEW X e t' := ⟨fun pins s σ H Q I q => h.run pins s σ H Q I (hh _ _ _ _ q)⟩
/-- f(e, ..) in a block: the count of tokens alone is told -/
def tCallT (sp : SpW) (E : XK) (t : TAW) : TEW := fun s σ H Q => t s σ H fun vs us s1 H1 => sp vs us s1 H1 (fun v u s2 H2 => s1.toks ≤ s2.toks → Q v u s2 H2) E
theorem pew_callT (F : FnRaw X.prog X.w X.K X.mg X.base CX k f fd ps sp) (hr : Room k X.A) (hg : Gl X x) (hm : X.mg x = some (.ref f)) (hk : PySem.W.keepIn X.K (.ref f) = true) (hb : Binds X.K fd ps []) (hx : Passes CX X E)
    (ha : PAW X (e :: es) t) (hdb : (x == ("__debug__" : Str)) = false := by decide) (he : starEach (e :: es) X.env = (false, eval e X.env) :: starEach es X.env := by rfl) (hpl : (backTo pos (starEach es X.env)).any (·.1) = false := by rfl) :
    PEW X (.Call (.Name x p) (e :: es) [] pos) (tCallT sp E t) := by
  refine ⟨fun pins s σ H Q I h => ?_⟩
  refine wpAny_Call_Name_kw (ld_glob I hg hm ?_ hdb)
  refine PySem.W.callWith_K (h₀ := X.base) I.ok.mod.kin hk (thn (ha.run pos pins s σ H _ I h) fun us s1 ⟨vs, H1, I1, r, q⟩ => ⟨I1.kIn, ?_⟩) he hpl
  have hl : (us ++ []).length = ps.length := by rw [List.append_nil, ← r.length]; exact F.len _ _ _ _ _ _ q
  have hb' := hb s1 us I1.kIn hl
  rw [List.append_nil] at hb'
  refine wpAny_call (codeAny_mono (codeAny_toks_of (Nat.le_refl s1.toks) (F.run X.A X.stack s1 H1 ⟨us, []⟩ us vs _ E hr I1.env0 hb' r q)) fun r s' ⟨hk, hq⟩ => ?_)
  cases r with
  | error e => exact hx pins σ H1 s1 e s' I1 hq
  | ok fl =>
    cases fl with
    | ret u =>
      obtain ⟨v, H', J, r, q⟩ := I1.after hq
      exact ⟨v, H', J, r, q hk⟩
    | next => exact False.elim hq
    | brk => exact False.elim hq
    | cont => exact False.elim hq
end
end XW
end
section
set_option Elab.async false
set_option linter.all false
set_option maxRecDepth 100000
set_option maxHeartbeats 4100000
namespace LA
open PySem L2 XS XT XK XW
/-! ### picks and rows, with the tokens of what they give -/
section
variable {P : Program} {w : World} {K : PySem.W.Frag} {mg : Str → Option Value} {base : Heap}
structure CallW (P : Program) (w : World) (K : PySem.W.Frag) (mg : Str → Option Value) (base : Heap) (k : Nat) (x : Str) (ps : List Str) (sp : SpW) (f : Addr) (fd : FuncData) : Prop where
  ok : FnRaw P w K mg base CX0 k f fd ps sp
  m : mg x = some (.ref f)
  k : PySem.W.keepIn K (.ref f) = true
  b : Binds K fd ps []
/-- pick of a text: a new text; of a known list: its raw item -/
def spPickW : SpW := fun vs _ s H Q _ => ∃ (d c : Addr) (n : Int) (ns : List Int) (o : V), vs = [.ref d, o] ∧ PenAt H d c n ns ∧ n < 1000000 ∧
  ((∃ z : Str, o = .str z ∧ 0 < z.length ∧ z.length < 1000000 ∧ ∀ (k : Nat) (t : Tok) (s' : Shared) (H' : Hp), k ∈ cod z → s.toks ≤ t → t < s'.toks → PenAt H' d c (n + 1) ns → But d H H' → Q (.str (sg k)) (.str (sg k) t) s' H') ∨
   (∃ (l : Addr) (ws : List Value) (xs : List V), o = .ref l ∧ H l = some (.frz { cls := .type "list", data := .seq ws.toArray } (.lst xs)) ∧ ws.length = xs.length ∧ 0 < xs.length ∧ xs.length < 1000000 ∧
     ∀ (j : Nat) (v : V) (u : Value) (s' : Shared) (H' : Hp), xs[j]? = some v → ws[j]? = some u → s.toks ≤ s'.toks → PenAt H' d c (n + 1) ns → But d H H' → Q v u s' H'))
theorem ok_pickW {f fD : Addr} {fd fdD : FuncData} (F : Fun K "_law_pick" "_law_pick" sPick f fd) (T : Txt mg) (GD : FnOk P w K mg base CX0 1 fD fdD ["_law_pen_here", "_law_span"] spDraw) (mD : mg "_law_draw" = some (.ref fD)) (kD : PySem.W.keepIn K (.ref fD) = true) (bD : Binds K fdD ["_law_pen_here", "_law_span"] []) :
    FnRaw P w K mg base CX0 2 f fd ["_law_pen_here", "_law_options"] spPickW := by
  refine fun_raw F scP (fun vs us s H Q E h => ?_) (fun cdv A outer s s1 H us vs Q E hr bg rv h => ?_)
  · obtain ⟨d, c, n, ns, o, rfl, _⟩ := h
    rfl
  · obtain ⟨d, c, n, ns, o, rfl, pen, hn, k⟩ := h
    rcases k with ⟨z, rfl, h0, h1, k⟩ | ⟨l, ws, xs, rfl, hl, hw, h0, h1, k⟩
    · refine ⟨_, pssw_one (by exact (psw_ret (pew_ixS (PEW.of (pv 1)) (PEW.of (pe_call GD hr rfl mD kD bD .nil pass0 (pa_cons (pv 0) (pa_cons (pe_callB call_len (by rfl) T.len PySem.boot_len (pa_cons (pv 1) pa_nil)) pa_nil)))) (fun _ _ => rfl)))), ?_⟩
      refine ⟨_, rfl, fun _ s2 _ k2 => ⟨_, rfl, _, rfl, _, z.length, rfl, ⟨Nat.le_trans (Nat.le_of_lt h1) (by decide), rfl⟩, ?_⟩⟩
      refine ⟨d, c, n, ns, (z.length : Int), rfl, pen, hn, by omega, by omega, fun r H' r0 r1 pen' but => ?_⟩
      obtain ⟨j, rfl⟩ := Int.eq_ofNat_of_zero_le r0
      have hj : j < (cod z).length := by rw [len_cod]; omega
      have t1 := bg.tk
      exact fun _ s3 _ k3 => ⟨z, _, (cod z)[j], rfl, rfl, Nat.le_trans (Nat.le_of_lt h1) (by decide), atI_nat (List.getElem?_eq_getElem hj), fun s4 _ k4 => k _ s3.toks s4 H' (List.getElem_mem hj) (Nat.le_trans t1 (Nat.le_trans k2 k3)) (by rw [k4]; exact Nat.lt_succ_self _) pen' but⟩
    · have nld : l ≠ d := by
        obtain ⟨_, _, _, p⟩ := pen
        exact ne_of hl p.dc (by intro z; cases z)
      refine ⟨_, pssw_one (by exact (psw_ret (pew_ixL (PEW.of (pv 1)) (PEW.of (pe_call GD hr rfl mD kD bD .nil pass0 (pa_cons (pv 0) (pa_cons (pe_callB call_len (by rfl) T.len PySem.boot_len (pa_cons (pv 1) pa_nil)) pa_nil)))) (fun _ _ => rfl)))), ?_⟩
      refine ⟨_, rfl, fun _ s2 _ k2 => ⟨_, rfl, _, rfl, _, xs.length, rfl, .inl ⟨_, .inl (.inr ⟨_, hl⟩), rfl⟩, ?_⟩⟩
      refine ⟨d, c, n, ns, (xs.length : Int), rfl, pen, hn, by omega, by omega, fun r H' r0 r1 pen' but => ?_⟩
      obtain ⟨j, rfl⟩ := Int.eq_ofNat_of_zero_le r0
      have hj : j < xs.length := by omega
      have hj2 : j < ws.length := by omega
      have t1 := bg.tk
      exact fun _ s3 _ k3 => ⟨l, ws, xs, j, xs[j], ws[j], rfl, rfl, but _ _ hl nld, List.getElem?_eq_getElem hj, List.getElem?_eq_getElem hj2, k j _ _ s3 _ (List.getElem?_eq_getElem hj) (List.getElem?_eq_getElem hj2) (by omega) pen' but⟩
/-- row: a new text -/
def spRowW : SpW := fun vs _ s H Q _ => ∃ (d c : Addr) (n : Int) (ns : List Int) (z : Str) (a b : Int), vs = [.ref d, .str z, .int a, .int b] ∧ PenAt H d c n ns ∧ n + 1 + b < 1000000 ∧ 0 < z.length ∧ z.length < 1000000 ∧ 0 ≤ a ∧ a ≤ b ∧
  ∀ (y : Str) (t : Tok) (s' : Shared) (H' : Hp), (∀ c ∈ cod y, c ∈ cod z) → a ≤ y.length → (y.length : Int) ≤ b → s.toks ≤ t → t < s'.toks → PenAt H' d c (n + 1 + b) ns → But d H H' → Q (.str y) (.str y t) s' H'
theorem ok_rowW {f fD fP : Addr} {fd fdD fdP : FuncData} (F : Fun K "_law_row" "_law_row" sRow f fd) (T : Txt mg) (mR : mg "range" = none) (M : CallW P w K mg base 2 "_law_pick" ["_law_pen_here", "_law_options"] spPickW fP fdP) (GD : FnOk P w K mg base CX0 1 fD fdD ["_law_pen_here", "_law_span"] spDraw) (mD : mg "_law_draw" = some (.ref fD)) (kD : PySem.W.keepIn K (.ref fD) = true) (bD : Binds K fdD ["_law_pen_here", "_law_span"] []) :
    FnRaw P w K mg base CX0 3 f fd ["_law_pen_here", "_law_signs_here", "_law_least", "_law_most_letters"] spRowW := by
  refine fun_raw F scR (fun vs us s H Q E h => ?_) (fun cdv A outer s s1 H us vs Q E hr bg rv h => ?_)
  · obtain ⟨d, c, n, ns, z, a, b, rfl, _⟩ := h
    rfl
  · obtain ⟨d, c, n, ns, z, a, b, rfl, pen, hn, z0, z1, ha, hb, k⟩ := h
    have hr2 : Room 2 _ := hr.mono (by decide)
    have hr1 : Room 1 _ := hr.mono (by decide)
    have t1 := bg.tk
    refine ⟨_, pssw_cons (by exact (PSW.of (ps_set (i := 4) scR.nd rfl (.inl rfl) (pe_op op_add (pv 2) (pe_call GD hr1 rfl mD kD bD .nil pass0 (pa_cons (pv 0) (pa_cons (pe_op op_add (pe_op op_sub (pv 3) (pv 2)) pe_int) pa_nil))))))) (
      pssw_one (by exact (psw_ret (pew_join pew_str (pew_lc (own := [("_law_k", 5)]) (g := gName 5) (te := tCallT spPickW (fun _ _ _ => False) (tConsW (tOfE (tVar 0)) (tConsW (tOfE (tVar 1)) tNilW))) rfl scR.nd (pi_range1 rfl mR (pa_cons (pv 4) pa_nil))
        (blkOk_by (N := ["_law_pen_here", "_law_signs_here", "_law_least", "_law_most_letters", "_law_span", "_law_k"]) (sc := defScope sRow) (by decide +kernel))
        (fun _ _ _ _ _ => by exact (pg_name (i := 5) scR.nd rfl (Or.inl rfl)))
        (fun _ _ _ _ _ => by exact (pew_callT M.ok hr2 rfl M.m M.k M.b pass0 (paw_cons (PEW.of (pv 0)) (paw_cons (PEW.of (pv 1)) paw_nil))))))))), ?_⟩
    refine ⟨_, rfl, _, rfl, _, rfl, _, rfl, _, _, rfl, rfl, _, _, rfl, rfl, ?_⟩
    have n0 := pen.n0
    refine ⟨d, c, n, ns, _, rfl, pen, by omega, by omega, by omega, fun r H1 r0 r1 pen1 b1 => ?_⟩
    refine ⟨_, _, rfl, rfl, fun s2 k2 => ?_⟩
    refine fun s3 kp3 e3 => ⟨"", rfl, ?_⟩
    refine ⟨_, rfl, a + r, rfl, by omega, by omega, fun D nD => ?_⟩
    obtain ⟨nDd, nDc⟩ := pen1.fresh nD
    have nH : H D = none := b1.none nDd nD
    have k3 : s.toks ≤ s3.toks := by
      have h1 : s1.toks ≤ s2.toks := k2
      rw [e3]
      exact Nat.le_trans t1 (Nat.le_trans h1 (Nat.le_succ _))
    refine ⟨fun i m N G => s3.toks ≤ N ∧ i + m = (a + r).toNat ∧ ∃ ds : List Nat, G D = some (lstO D s3.toks N (cs ds)) ∧ (∀ x ∈ ds, x ∈ cod z) ∧ ds.length = i ∧ PenAt G d c (n + 1 + i) ns ∧ But d H G, fun N hN => ⟨(a + r).toNat, hN, by omega, [], upd_same, (fun x hx => absurd hx (by simp)), rfl, (show PenAt _ d c (n + 1 + (0 : Int)) ns from (Int.add_zero (n + 1)).symm ▸ pen1.put nDd nDc), b1.put nH⟩, fun i m N G p => ?_⟩
    obtain ⟨eN, em, ds, pD, mem, len, pP, pB⟩ := p
    by_cases hi : i < (a + r).toNat
    · refine .inr ⟨hi, fun N' G' => s3.toks ≤ N' ∧ ∃ ds : List Nat, G' D = some (lstO D s3.toks N' (cs ds)) ∧ (∀ x ∈ ds, x ∈ cod z) ∧ ds.length = i + 1 ∧ PenAt G' d c (n + 1 + (i + 1 : Nat)) ns ∧ But d H G', fun N' G' q => ⟨m - 1, by omega, q.1, by omega, q.2⟩, fun x G' y => ?_⟩
      obtain ⟨rfl, rfl⟩ := y
      refine ⟨rfl, fun s4 a1 a2 => ?_⟩
      refine ⟨_, rfl, fun _ s5 _ k5 => ⟨_, rfl, fun _ s6 _ k6 => ?_⟩⟩
      refine ⟨d, c, n + 1 + i, ns, _, rfl, pP, by omega, .inl ⟨z, rfl, z0, z1, fun x t s7 G1 hx h1 h2 pP1 b2 => ?_⟩⟩
      refine fun kk => ⟨_, b2 _ _ pD nDd, Nat.lt_of_le_of_lt (by unfold cs; rw [List.length_map]; omega : _ ≤ 1000000) (by decide), ?_, ?_, ?_, ds ++ [x], ?_, ?_, ?_, ?_, ?_⟩
      · intro x' t' e
        cases e
        exact ⟨Nat.le_trans a1 (Nat.le_trans k5 (Nat.le_trans k6 h1)), h2⟩
      · exact Nat.le_trans k5 (Nat.le_trans k6 kk)
      · exact Nat.le_trans a1 (Nat.le_trans k5 (Nat.le_trans k6 kk))
      · unfold cs
        rw [List.map_append]
        exact upd_same
      · intro y hy
        rcases List.mem_append.mp hy with h | h
        · exact mem y h
        · rw [List.mem_singleton] at h
          exact h ▸ hx
      · rw [List.length_append, len]
        rfl
      · have e : n + 1 + ((i + 1 : Nat) : Int) = n + 1 + i + 1 := by omega
        rw [e]
        exact pP1.put nDd nDc
      · exact (pB.trans b2).put nH
    · have ei : i = (a + r).toNat := by omega
      refine .inl ⟨Nat.le_of_eq ei.symm, fun s7 k7 => ?_⟩
      refine ⟨D, s3.toks, N, ds.map sg, rfl, by rw [← cs_strs]; exact pD, (by rw [sum_sg, List.length_map]; show ds.length + ds.length * 0 ≤ 16777216; omega), Nat.le_trans eN k7, k7, fun t s8 h1 h2 h3 => ?_⟩
      have ej : cod (Txt.join "" (ds.map sg)) = ds := join_sg ds
      have el : (Txt.join "" (ds.map sg)).length = (a + r).toNat := by rw [← len_cod, ej, len, ei]
      refine k _ t s8 _ (by rw [ej]; exact mem) (by rw [el]; omega) (by rw [el]; omega) (Nat.le_trans k3 h1) h2 ?_ pB
      obtain ⟨kvs, t', l', q⟩ := pP
      exact q.more (by omega)
end
end LA
end
section
set_option Elab.async false
set_option linter.all false
set_option maxRecDepth 100000
set_option maxHeartbeats 4100000
namespace XZ
open PySem PySem.Spec PyProof.Rows L2 XS XT
/-! ### text[::-1] -/
/-- the text turned round -/
def revS (z : Str) : Str := ⟨z.cps.toList.reverse.toArray⟩
theorem cod_rev (z : Str) : cod (revS z) = (cod z).reverse := rfl
theorem len_rev (z : Str) : (revS z).length = z.length := by
  rw [← len_cod, cod_rev, List.length_reverse, len_cod]
theorem rev_picked (z : Str) : (Builtin.Str.strSliceIndices none none (-1) z.length).filterMap (z.cps[·]?) = z.cps.toList.reverse := by
  show (sliceRange ((z.cps.size : Int) - 1) (-1) (-1)).filterMap (z.cps[·]?) = _
  rw [PySem.W.krv_sliceRange, PySem.W.krv_range, List.filterMap_reverse, PySem.W.krv_all]
section
variable {X : Cx}
def tRevS (te : TE) : TE := fun σ H Q => te σ H fun x H1 => ∃ z : Str, x = .str z ∧ z.length ≤ sizeLine ∧ Q (.str (revS z)) H1
theorem pe_revS {e : Expr} {te : TE} {k : Nat} {p1 p2 p3 pos : Pos} (he : PE X e te) : PE X (.Subscript e (.Slice none none (some (.UnaryOp .USub (.Constant (.int 1) k p1) p2)) p3) pos) (tRevS te) := by
  refine ⟨fun pins s σ H Q I h => ?_⟩
  refine Subscript_ (thn (he.run pins s σ H _ I h) fun v s1 ⟨x, H1, I1, r1, z, ex, lz, q⟩ => ?_)
  subst ex
  obtain ⟨t, rfl⟩ := r1
  have part : PO X (some (.UnaryOp .USub (.Constant (.int 1) k p1) p2)) (tPart (tUn (rU fun i => .int (-i)) (tC (.int 1)))) := po_some (pe_un un_neg pe_int)
  refine wpAny_Slice (thn (po_none.run pins s1 σ H1 (fun o H2 => o = none ∧ H2 = H1) I1 ⟨rfl, rfl⟩) fun vl s2 ⟨l, H2, I2, pl, el, e2⟩ => ?_)
  subst el e2
  refine thn (po_none.run pins s2 σ H2 (fun o H3 => o = none ∧ H3 = H2) I2 ⟨rfl, rfl⟩) fun vu s3 ⟨u, H3, I3, pu, eu, e3⟩ => ?_
  subst eu e3
  refine thn (part.run pins s3 σ H3 (fun o H4 => o = some (-1) ∧ H4 = H3) I3 ⟨1, rfl, -1, rfl, rfl, rfl⟩) fun vs s4 ⟨o, H4, I4, ps, eo, e4⟩ => ?_
  subst eo e4
  obtain ⟨l, rfl, el⟩ := IsPart.raw pl
  obtain ⟨u, rfl, eu⟩ := IsPart.raw pu
  obtain ⟨st, rfl, es⟩ := IsPart.raw ps
  have I5 : Inv X pins σ H4 { s4 with heap := s4.heap.push { cls := .type "slice", data := .fields #[partValue l, partValue u, partValue st] } } := I4.kept (t' := s4.toks) fun b ob q => Heap.get?_push_of_some _ q
  show wpAny (model X.prog X.w) X.A (subscriptTail e (.Slice none none (some (.UnaryOp .USub (.Constant (.int 1) k p1) p2)) p3) (.str z t) (.ref s4.heap.objs.size)) (EP X pins σ Q) X.xe { s4 with heap := s4.heap.push { cls := .type "slice", data := .fields #[partValue l, partValue u, partValue st] } }
  refine tail_any (ops := [.str z t, .ref s4.heap.objs.size]) (typeIs_str _ _ _) PySem.F.slot_str_getitem.lookup ?_ (by with_unfolding_all rfl)
  refine wpAny_getItem_str_slice (l := l) (u := u) (st := st) ⟨_, Heap.get?_push_size _ rfl, rfl, rfl⟩ (by rw [es]; rfl) ?_
  have made : sliceMade z t l u st = .str (revS z) := by
    unfold sliceMade slicePicked
    rw [el, eu, es]
    show (if ((-1 : Int) == 1 && _) = true then _ else _) = _
    rw [if_neg (by simp)]
    show Made.str ⟨((Builtin.Str.strSliceIndices none none (-1) z.length).filterMap (z.cps[·]?)).toArray⟩ = _
    rw [rev_picked]
    rfl
  rw [made]
  exact ⟨by rw [len_rev]; exact lz, .str _, H4, I5.tok _, ⟨_, rfl⟩, q⟩
end
end XZ
end
section
set_option Elab.async false
set_option linter.all false
set_option maxRecDepth 100000
set_option maxHeartbeats 4100000
namespace LA
open PySem PySem.Spec PyProof.Rows L2 XS XT XK XZ XW
abbrev sDeed : Stmt := top 31
abbrev sMDeed : Stmt := top 32
/-- a change: which class, its texts -/
structure Ch where
  i : Nat
  a : Str
  b : Str
def flds (c : Ch) : List (Str × V) := match c.i with
  | 0 => [("_old", .str c.a), ("_new", .str c.b)]
  | 1 => [("_old", .str c.a), ("_new", .str c.b)]
  | 2 => [("_letters", .str c.a), ("_others", .str c.b)]
  | _ => [("_word", .str c.a)]
def srt : Nat → Str
  | 0 => "first"
  | 1 => "every"
  | 2 => "swap"
  | 3 => "front"
  | _ => "behind"
/-- the tuple at p, of a change that is put in the place of texts: known with its tokens -/
def Known (H : Hp) (p : Addr) (c : Ch) : Prop := ∃ (w : Value) (t u : Tok), H p = some (.frz { cls := .type "tuple", data := .seq #[w, .str c.a t, .str c.b u] } (.tup [.str (srt c.i), .str c.a, .str c.b])) ∧ TkOk c.a c.b t u
/-- the law's tuple of a plain change -/
def DA (H : Hp) (c : Ch) (v : V) : Prop := c.i < 5 ∧ (3 ≤ c.i → c.b = "") ∧ ∃ p, v = .ref p ∧ ((c.i < 2 ∧ Known H p c) ∨ (2 ≤ c.i ∧ H p = some (.tup (.str (srt c.i) :: .str c.a :: (if c.i < 3 then [.str c.b] else [])))))
theorem DA.keep {H H' : Hp} (k : ∀ a o, H a = some o → (∃ xs, o = .tup xs) ∨ (∃ q xs, o = .frz q (.tup xs)) → H' a = some o) {c : Ch} {v : V} (h : DA H c v) : DA H' c v := by
  obtain ⟨l, b, p, e, h⟩ := h
  refine ⟨l, b, p, e, ?_⟩
  rcases h with ⟨l2, w, t, u, hp, q⟩ | ⟨l2, hp⟩
  · exact .inl ⟨l2, w, t, u, k _ _ hp (.inr ⟨_, _, rfl⟩), q⟩
  · exact .inr ⟨l2, k _ _ hp (.inl ⟨_, rfl⟩)⟩
theorem DA.same {H H' : Hp} (s : Same H H') {c : Ch} {v : V} (h : DA H c v) : DA H' c v := h.keep fun a o e _ => s _ _ e
theorem DA.but {H H' : Hp} {d : Addr} {kvs : List (Key × V)} (b : But d H H') (hd : H d = some (.dK kvs)) {c : Ch} {v : V} (h : DA H c v) : DA H' c v :=
  h.keep fun a o e k => b _ _ e (ne_of e hd (by rcases k with ⟨_, rfl⟩ | ⟨_, _, rfl⟩ <;> (intro z; cases z)))
/-- the texts may be taken -/
structure ChOk (c : Ch) : Prop where
  la : c.a.length < 100
  lb : c.b.length < 100
  one : c.i ≠ 2 → shortB c.a = true
  new : c.i < 2 → newB c.b = true
  sw : c.i = 2 → letB c.a = true ∧ lineB c.b = true ∧ c.b.length = c.a.length
theorem PenAt.le {H : Hp} {d c : Addr} {n m : Int} {ns : List Int} (p : PenAt H d c n ns) (h : n ≤ m) : PenAt H d c m ns := by
  obtain ⟨kvs, t, l, q⟩ := p
  exact q.more h
theorem line_of {y z : Str} (h : ∀ c ∈ cod y, c ∈ cod z) (sz : Sgn z) : lineB y = true := by
  unfold lineB
  rw [List.all_eq_true]
  exact fun c hc => decide_eq_true (sz.lets c (h c hc))
theorem short_of {y z : Str} (h : ∀ c ∈ cod y, c ∈ cod z) (sz : Sgn z) (h1 : 1 ≤ y.length) (h8 : y.length ≤ 8) : shortB y = true := by
  unfold shortB wordB
  rw [line_of h sz, decide_eq_true (show 0 < y.length by omega), decide_eq_true h8]
  rfl
theorem cod_pre (z : Str) (i : Nat) : cod (cutS z none (some (i : Int))) = (cod z).take i := by
  show ((((cod z).drop (HT.sIx z.length 0 none)).take (HT.sIx z.length z.length (some (i : Int)) - HT.sIx z.length 0 none)).toArray).toList = _
  rw [HT.sIx_nat, HT.sIx_none]
  show (cod z).take (min i z.length - 0) = _
  rw [List.take_eq_take_iff, len_cod]
  omega
theorem PenAt.dict {H : Hp} {d c : Addr} {n : Int} {ns : List Int} (p : PenAt H d c n ns) : ∃ kvs, H d = some (.dK kvs) := by
  obtain ⟨kvs, _, _, q⟩ := p
  exact ⟨kvs, q.dc⟩
theorem mul2 (c : Nat) : Txt.mul ⟨#[c]⟩ 2 = ⟨#[c, c]⟩ := rfl
theorem line_two {a b : Nat} (ha : Lt a) (hb : Lt b) : lineB ⟨#[a, b]⟩ = true := by
  unfold lineB
  rw [List.all_eq_true]
  intro x hx
  have hx : x = a ∨ x = b := by simpa using hx
  rcases hx with rfl | rfl
  · exact decide_eq_true ha
  · exact decide_eq_true hb
theorem line_one {a : Nat} (ha : Lt a) : lineB ⟨#[a]⟩ = true := by
  unfold lineB
  rw [List.all_eq_true]
  intro x hx
  have hx : x = a := by simpa using hx
  rw [hx]
  exact decide_eq_true ha
/-- how long its texts are -/
structure Wd (b : Int) (c : Ch) : Prop where
  a : (c.a.length : Int) ≤ 2 ∨ (c.a.length : Int) ≤ b
  b : (c.b.length : Int) ≤ 2 ∨ (c.b.length : Int) ≤ b
section
variable {P : Program} {w : World} {K : PySem.W.Frag} {mg : Str → Option Value} {base : Heap}
/-- deed -/
def spDeedW : SpW := fun vs _ s H Q _ => ∃ (d c : Addr) (n : Int) (ns : List Int) (z : Str) (b : Int), vs = [.ref d, .str z, .int b] ∧ PenAt H d c n ns ∧ n + 20 < 1000000 ∧ Sgn z ∧ 1 ≤ b ∧ b ≤ 8 ∧
  ∀ (v : V) (u : Value) (ch : Ch) (s' : Shared) (H' : Hp), RelV v u → s.toks ≤ s'.toks → DA H' ch v → ChOk ch → Wd b ch → PenAt H' d c (n + 20) ns → But d H H' → Q v u s' H'
theorem scDeed : FnScope ["_law_pen_here", "_law_signs_here", "_law_wide", "_law_sort"] ["_law_pen_here", "_law_signs_here", "_law_wide"] (defScope sDeed) := ⟨rfl, rfl, rfl, by decide +kernel, rfl, by decide +kernel, by decide +kernel⟩
theorem ok_deedW {f fR fW fP : Addr} {fd fdR fdW fdP : FuncData} (F : Fun K "_law_deed" "_law_deed" sDeed f fd) (M : PickAt P w K mg base fP fdP)
    (R : CallOf P w K mg base 3 "_law_row" ["_law_pen_here", "_law_signs_here", "_law_least", "_law_most_letters"] spRow fR fdR) (RW : CallW P w K mg base 3 "_law_row" ["_law_pen_here", "_law_signs_here", "_law_least", "_law_most_letters"] spRowW fW fdW) :
    FnRaw P w K mg base CX0 4 f fd ["_law_pen_here", "_law_signs_here", "_law_wide"] spDeedW := by
  refine fun_raw F scDeed (fun vs us s H Q E h => ?_) (fun cdv A outer s s1 H us vs Q E hr bg rv h => ?_)
  · obtain ⟨d, c, n, ns, z, b, rfl, _⟩ := h
    rfl
  · obtain ⟨d, c, n, ns, z, b, rfl, pen, hn, sz, b1, b8, q⟩ := h
    have hr2 : Room 2 _ := hr.mono (by decide)
    have n0 := pen.n0
    have zl : z.length ≤ sizeLine := Nat.le_trans sz.three (by decide)
    refine ⟨_, pssw_cons (by exact (PSW.of (ps_set (i := 3) scDeed.nd rfl (.inl rfl) (pe_call M.ok hr2 rfl M.m M.k M.b .nil pass0 (pa_cons (pv 0) (pa_cons (pe_lst (pa_cons pe_str (pa_cons pe_str (pa_cons pe_str (pa_cons pe_str (pa_cons pe_str (pa_cons pe_str (pa_cons pe_str pa_nil)))))))) pa_nil))))))
      (pssw_cons (by exact (PSW.of (ps_if (pt_cmpR op_eq (pv 3) pe_str (nomark _)) (pss_one (by exact (ps_ret (pe_call M.ok hr2 rfl M.m M.k M.b .nil pass0 (pa_cons (pv 0) (pa_cons (pe_lst (pa_cons (pe_tup (pa_cons pe_str (pa_cons (pe_slice sl_str (pv 1) po_none (po_some pe_int)) (pa_cons (pe_revS (pe_slice sl_str (pv 1) po_none (po_some pe_int))) pa_nil))))
          (pa_cons (pe_tup (pa_cons pe_str (pa_cons (pe_ix ix_str (pv 1) pe_int (fun _ _ => rfl)) (pa_cons (pe_ix ix_str (pv 1) pe_int (fun _ _ => rfl)) pa_nil))))
          (pa_cons (pe_tup (pa_cons pe_str (pa_cons (pe_slice sl_str (pv 1) po_none (po_some pe_int)) (pa_cons (pe_op op_mul_str (pe_ix ix_str (pv 1) pe_int (fun _ _ => rfl)) pe_int) pa_nil))))
          (pa_cons (pe_tup (pa_cons pe_str (pa_cons (pe_ix ix_str (pv 1) pe_int (fun _ _ => rfl)) (pa_cons pe_str pa_nil)))) pa_nil))))) pa_nil)))))) pss_nil)))
      (pssw_cons (by exact (PSW.of (ps_if (pt_cmpR op_in_seq (pv 3) (pe_tup (pa_cons pe_str (pa_cons pe_str pa_nil))) (by rfl)) (pss_one (by exact (ps_ret (pe_tup (pa_cons (pv 3) (pa_cons (pe_call R.ok hr rfl R.m R.k R.b .nil pass0 (pa_cons (pv 0) (pa_cons (pv 1) (pa_cons pe_int (pa_cons (pv 2) pa_nil))))) pa_nil)))))) pss_nil)))
      (pssw_one (by exact (psw_ret (pew_tup (paw_cons (PEW.of (pv 3)) (paw_cons (pew_call RW.ok hr rfl RW.m RW.k RW.b pass0 (paw_cons (PEW.of (pv 0)) (paw_cons (PEW.of (pv 1)) (paw_cons pew_int (paw_cons (PEW.of (pv 2)) paw_nil))))) (paw_cons (pew_call RW.ok hr rfl RW.m RW.k RW.b pass0 (paw_cons (PEW.of (pv 0)) (paw_cons (PEW.of (pv 1)) (paw_cons pew_int (paw_cons (PEW.of (pv 2)) paw_nil))))) paw_nil))))))))), ?_⟩
    refine ⟨_, rfl, (by show 7 ≤ sizeLine; decide), fun L nL => ?_⟩
    have sL := same_upd (o := .lst [.str "first", .str "first", .str "every", .str "every", .str "swap", .str "front", .str "behind"]) nL
    refine ⟨d, c, n, ns, _, rfl, pen.keep sL, by omega, .inl ⟨L, _, rfl, upd_same, (by show 0 < 7; decide), (by show 7 < 1000000; decide), fun v H2 hv pen2 bb2 => ?_⟩⟩
    have bL := (But.same (d := d) sL).trans bb2
    obtain ⟨w, rfl, hw⟩ : ∃ w : Nat, v = .str (srt w) ∧ w < 5 := by
      simp only [List.mem_cons, List.not_mem_nil, or_false] at hv
      rcases hv with rfl | rfl | rfl | rfl | rfl | rfl | rfl
      · exact ⟨0, rfl, by decide⟩
      · exact ⟨0, rfl, by decide⟩
      · exact ⟨1, rfl, by decide⟩
      · exact ⟨1, rfl, by decide⟩
      · exact ⟨2, rfl, by decide⟩
      · exact ⟨3, rfl, by decide⟩
      · exact ⟨4, rfl, by decide⟩
    refine fun s2 k2 => ⟨_, rfl, rfl, _, rfl, ?_⟩
    have ks := Nat.le_trans bg.tk k2
    by_cases w2 : w = 2
    · subst w2
      rw [show decide (V.str (srt 2) = V.str "swap") = true by decide +kernel]
      have zc0 : 0 < (cod z).length := by
        rw [len_cod]
        have := sz.two
        omega
      have zc1 : 1 < (cod z).length := by
        rw [len_cod]
        have := sz.two
        omega
      have at0 : atI z.cps.toList 0 = some ((cod z)[0]'zc0) := atI_nat (j := 0) (List.getElem?_eq_getElem zc0)
      have at1 : atI z.cps.toList 1 = some ((cod z)[1]'zc1) := atI_nat (j := 1) (List.getElem?_eq_getElem zc1)
      have m0 : (cod z)[0]'zc0 ∈ cod z := List.getElem_mem zc0
      have m1 : (cod z)[1]'zc1 ∈ cod z := List.getElem_mem zc1
      have lt0 := sz.lets _ m0
      have lt1 := sz.lets _ m1
      generalize (cod z)[0]'zc0 = c0 at at0 m0 lt0
      generalize (cod z)[1]'zc1 = c1 at at1 m1 lt1
      have l2 : (cutS z none (some 2)).length = 2 := by
        rw [← len_cod, show cod (cutS z none (some 2)) = (cod z).take 2 from cod_pre z 2, List.length_take, len_cod]
        have := sz.two
        omega
      have c2 := cod_pre z 2
      have c2 : cod (cutS z none (some 2)) = (cod z).take 2 := c2
      have li2 : lineB (cutS z none (some 2)) = true := line_of (fun x hx => by rw [c2] at hx; exact List.mem_of_mem_take hx) sz
      have nd2 : (cod (cutS z none (some 2))).Nodup := by
        rw [c2]
        exact sz.nd.sublist (List.take_sublist _ _)
      have let2 : letB (cutS z none (some 2)) = true := by
        unfold letB wordB
        rw [li2, decide_eq_true (show 0 < (cutS z none (some 2)).length by omega), decide_eq_true nd2]
        rfl
      have let1 : ∀ x, Lt x → letB ⟨#[x]⟩ = true := fun x hx => by
        unfold letB wordB
        rw [line_one hx]
        show (true && decide (0 < 1) && decide ([x]).Nodup) = true
        rw [decide_eq_true (List.nodup_cons.mpr ⟨by simp, List.nodup_nil⟩)]
        rfl
      have rev2 : lineB (revS (cutS z none (some 2))) = true := line_of (fun x hx => by
        rw [cod_rev, List.mem_reverse, c2] at hx
        exact List.mem_of_mem_take hx) sz
      have lr2 : (revS (cutS z none (some 2))).length = 2 := by rw [len_rev, l2]
      have ltq : Lt 113 := by decide
      refine iteT ⟨_, rfl, _, rfl, _, rfl, z, rfl, zl, _, rfl, _, rfl, z, rfl, zl, _, rfl, (by rw [l2]; decide), (by show 3 ≤ sizeLine; decide), fun u1 n1 =>
        ⟨_, rfl, z, 0, c0, rfl, rfl, zl, at0, _, rfl, z, 1, c1, rfl, rfl, zl, at1, (by show 3 ≤ sizeLine; decide), fun u2 n2 =>
        ⟨_, rfl, _, rfl, z, rfl, zl, _, rfl, z, 0, c0, rfl, rfl, zl, at0, _, _, rfl, rfl, (by show 1 ≤ 16; decide), by decide, by decide, (by show 3 ≤ sizeLine; decide), fun u3 n3 =>
        ⟨_, rfl, z, 1, c1, rfl, rfl, zl, at1, (by show 3 ≤ sizeLine; decide), fun u4 n4 => ⟨(by show 4 ≤ sizeLine; decide), fun L2 nL2 => ?_⟩⟩⟩⟩⟩
      have q5 := same_upd (o := .lst [.ref u1, .ref u2, .ref u3, .ref u4]) nL2
      have q4 := (same_upd (o := .tup [.str "swap", .str ⟨#[c1]⟩, .str "q"]) n4).trans q5
      have q3 := (same_upd (o := .tup [.str "swap", .str (cutS z none (some 2)), .str (Txt.mul ⟨#[c0]⟩ 2)]) n3).trans q4
      have q2 := (same_upd (o := .tup [.str "swap", .str ⟨#[c0]⟩, .str ⟨#[c1]⟩]) n2).trans q3
      have q1 := (same_upd (o := .tup [.str "swap", .str (cutS z none (some 2)), .str (revS (cutS z none (some 2)))]) n1).trans q2
      have penL := pen2.keep q1
      refine ⟨d, c, n + 1, ns, _, rfl, penL, by omega, .inl ⟨L2, _, rfl, upd_same, (by show 0 < 4; decide), (by show 4 < 1000000; decide), fun v H3 hv pen3 bb3 => ?_⟩⟩
      obtain ⟨kv, hdL⟩ := penL.dict
      have bb := (bL.trans (But.same q1)).trans bb3
      have far : ∀ (u : Addr) (xs : List V) (G1 : Hp), G1 u = some (.tup xs) → Same G1 _ → H3 u = some (.tup xs) := fun u xs G1 hu sm => bb3 _ _ (sm _ _ hu) (ne_of (sm _ _ hu) hdL (by intro w; cases w))
      simp only [List.mem_cons, List.not_mem_nil, or_false] at hv
      have pend := pen3.le (show n + 1 + 1 ≤ n + 20 by omega)
      rcases hv with rfl | rfl | rfl | rfl
      · exact fun uu s3 rr k3 => q _ uu ⟨2, cutS z none (some 2), revS (cutS z none (some 2))⟩ s3 H3 rr (Nat.le_trans ks k3) ⟨(by show 2 < 5; decide), fun e => absurd (show 3 ≤ 2 from e) (by decide), u1, rfl, .inr ⟨by show 2 ≤ 2; decide, far u1 _ _ upd_same q2⟩⟩ ⟨(by show (cutS z none (some 2)).length < 100; omega), (by show (revS _).length < 100; omega), fun e => absurd rfl e, fun e => absurd (show 2 < 2 from e) (by decide), fun _ => ⟨let2, rev2, (by show (revS _).length = (cutS z none (some 2)).length; omega)⟩⟩ ⟨.inl (by first | (show ((cutS z none (some 2)).length : Int) ≤ 2; omega) | (show ((1 : Nat) : Int) ≤ 2; decide)), .inl (by first | (show ((revS (cutS z none (some 2))).length : Int) ≤ 2; omega) | (show ((1 : Nat) : Int) ≤ 2; decide) | (show ((2 : Nat) : Int) ≤ 2; decide) | (show (("q" : Str).length : Int) ≤ 2; decide +kernel))⟩ pend bb
      · exact fun uu s3 rr k3 => q _ uu ⟨2, ⟨#[c0]⟩, ⟨#[c1]⟩⟩ s3 H3 rr (Nat.le_trans ks k3) ⟨(by show 2 < 5; decide), fun e => absurd (show 3 ≤ 2 from e) (by decide), u2, rfl, .inr ⟨by show 2 ≤ 2; decide, far u2 _ _ upd_same q3⟩⟩ ⟨(by show 1 < 100; decide), (by show 1 < 100; decide), fun e => absurd rfl e, fun e => absurd (show 2 < 2 from e) (by decide), fun _ => ⟨let1 _ lt0, line_one lt1, rfl⟩⟩ ⟨.inl (by first | (show ((cutS z none (some 2)).length : Int) ≤ 2; omega) | (show ((1 : Nat) : Int) ≤ 2; decide)), .inl (by first | (show ((revS (cutS z none (some 2))).length : Int) ≤ 2; omega) | (show ((1 : Nat) : Int) ≤ 2; decide) | (show ((2 : Nat) : Int) ≤ 2; decide) | (show (("q" : Str).length : Int) ≤ 2; decide +kernel))⟩ pend bb
      · exact fun uu s3 rr k3 => q _ uu ⟨2, cutS z none (some 2), ⟨#[c0, c0]⟩⟩ s3 H3 rr (Nat.le_trans ks k3) ⟨(by show 2 < 5; decide), fun e => absurd (show 3 ≤ 2 from e) (by decide), u3, rfl, .inr ⟨by show 2 ≤ 2; decide, far u3 _ _ upd_same q4⟩⟩ ⟨(by show (cutS z none (some 2)).length < 100; omega), (by show 2 < 100; decide), fun e => absurd rfl e, fun e => absurd (show 2 < 2 from e) (by decide), fun _ => ⟨let2, line_two lt0 lt0, (by show 2 = (cutS z none (some 2)).length; omega)⟩⟩ ⟨.inl (by first | (show ((cutS z none (some 2)).length : Int) ≤ 2; omega) | (show ((1 : Nat) : Int) ≤ 2; decide)), .inl (by first | (show ((revS (cutS z none (some 2))).length : Int) ≤ 2; omega) | (show ((1 : Nat) : Int) ≤ 2; decide) | (show ((2 : Nat) : Int) ≤ 2; decide) | (show (("q" : Str).length : Int) ≤ 2; decide +kernel))⟩ pend bb
      · exact fun uu s3 rr k3 => q _ uu ⟨2, ⟨#[c1]⟩, "q"⟩ s3 H3 rr (Nat.le_trans ks k3) ⟨(by show 2 < 5; decide), fun e => absurd (show 3 ≤ 2 from e) (by decide), u4, rfl, .inr ⟨by show 2 ≤ 2; decide, far u4 _ _ upd_same q5⟩⟩ ⟨(by show 1 < 100; decide), (by show ("q" : Str).length < 100; decide +kernel), fun e => absurd rfl e, fun e => absurd (show 2 < 2 from e) (by decide), fun _ => ⟨let1 _ lt1, (show lineB "q" = true by decide +kernel), by show ("q" : Str).length = 1; decide +kernel⟩⟩ ⟨.inl (by first | (show ((cutS z none (some 2)).length : Int) ≤ 2; omega) | (show ((1 : Nat) : Int) ≤ 2; decide)), .inl (by first | (show ((revS (cutS z none (some 2))).length : Int) ≤ 2; omega) | (show ((1 : Nat) : Int) ≤ 2; decide) | (show ((2 : Nat) : Int) ≤ 2; decide) | (show (("q" : Str).length : Int) ≤ 2; decide +kernel))⟩ pend bb
    · have nsw : decide (V.str (srt w) = V.str "swap") = false := by
        rcases (by omega : w = 0 ∨ w = 1 ∨ w = 3 ∨ w = 4) with rfl | rfl | rfl | rfl <;> decide +kernel
      rw [nsw]
      refine iteF fun s3 k3 => ⟨_, rfl, (by show 2 ≤ sizeLine; decide), fun T nT => ⟨T, _, rfl, .inr (SqT.of upd_same), rfl, rfl, _, rfl, ?_⟩⟩
      have sT := same_upd (o := .tup [.str "front", .str "behind"]) nT
      have penT := pen2.keep sT
      have bT := bL.trans (But.same sT)
      have pos1 := sz.two
      by_cases w3 : w < 3
      · have no : (if false = true then !inV (V.str (srt w)) [V.str "front", V.str "behind"] else inV (V.str (srt w)) [V.str "front", V.str "behind"]) = false := by
          rcases (by omega : w = 0 ∨ w = 1) with rfl | rfl <;> decide +kernel
        rw [no]
        refine iteF fun s4 k4 => ⟨_, rfl, fun w0 s5 r5 k5 => ⟨_, rfl, fun _ s6 _ k6 => ⟨_, rfl, fun _ s7 _ k7 => fun _ s8 kp8 k8 => ⟨_, rfl, fun _ s9 _ k9 => ⟨d, c, n + 1, ns, z, 1, b, rfl, penT, by omega, by omega, by have := sz.three; omega, by decide, b1, fun y t1 s10 H3 hy l1 l2 g1 g2 pen3 bb3 kp10 => ?_⟩⟩⟩⟩⟩
        refine ⟨_, rfl, fun _ s11 _ k11 => ⟨_, rfl, fun _ s12 _ k12 => fun _ s13 kp13 k13 => ⟨_, rfl, fun _ s14 _ k14 => ⟨d, c, n + 1 + (1 + b), ns, z, 0, b, rfl, pen3.le (by omega), by omega, by omega, by have := sz.three; omega, by decide, by omega, fun y2 t2 s15 H4 hy2 m1 m2 g3 g4 pen4 bb4 kp15 => ⟨(by show 3 ≤ sizeLine; decide), fun u s16 nu kp16 e16 => ?_⟩⟩⟩⟩⟩
        have su := same_upd (o := .frz { cls := .type "tuple", data := .seq [w0, .str y t1, .str y2 t2].toArray } (.tup [.str (srt w), .str y, .str y2])) nu
        have o1 : 0 < t1 := Nat.lt_of_lt_of_le (Nat.lt_of_le_of_lt (Nat.zero_le _) k8) (Nat.le_trans k9 g1)
        have o2 : t1 < t2 := Nat.lt_of_lt_of_le g2 (Nat.le_trans k11 (Nat.le_trans k12 (Nat.le_trans (Nat.le_of_lt k13) (Nat.le_trans k14 g3))))
        refine q _ _ ⟨w, y, y2⟩ s16 _ rfl (Nat.le_trans ks (Nat.le_trans k3 (Nat.le_trans k4 (Nat.le_trans k5 (Nat.le_trans k6 (Nat.le_trans k7 (Nat.le_trans (Nat.le_of_lt k8) (Nat.le_trans k9 (Nat.le_trans kp10.tk (Nat.le_trans k11 (Nat.le_trans k12 (Nat.le_trans (Nat.le_of_lt k13) (Nat.le_trans k14 (Nat.le_trans kp15.tk kp16.tk)))))))))))))) ⟨hw, fun e => absurd (show 3 ≤ w from e) (by omega), u, rfl, .inl ⟨(by show w < 2; omega), w0, t1, t2, upd_same, ⟨Nat.ne_of_gt o1, Nat.ne_of_gt (Nat.lt_trans o1 o2), fun e => absurd e (Nat.ne_of_lt o2)⟩⟩⟩ ⟨(by show y.length < 100; omega), (by show y2.length < 100; omega), fun _ => short_of hy sz (show 1 ≤ y.length by omega) (show y.length ≤ 8 by omega), fun _ => ?_, fun e => absurd (show w = 2 from e) w2⟩ ⟨.inr (by show (y.length : Int) ≤ b; omega), .inr (by show (y2.length : Int) ≤ b; omega)⟩ ((pen4.keep su).le (by omega)) (((bT.trans bb3).trans bb4).trans (But.same su))
        show (lineB y2 && decide (y2.length ≤ 8)) = true
        rw [line_of hy2 sz, decide_eq_true (show y2.length ≤ 8 by omega)]
        rfl
      · have yes : (if false = true then !inV (V.str (srt w)) [V.str "front", V.str "behind"] else inV (V.str (srt w)) [V.str "front", V.str "behind"]) = true := by
          rcases (by omega : w = 3 ∨ w = 4) with rfl | rfl <;> decide +kernel
        rw [yes]
        refine iteT ⟨_, rfl, _, rfl, _, rfl, _, rfl, d, c, n + 1, ns, z, 1, b, rfl, penT, by omega, by omega, by have := sz.three; omega, by decide, b1, fun y H3 hy l1 l2 pen3 bb3 => ⟨(by show 2 ≤ sizeLine; decide), fun u nu => ?_⟩⟩
        have su := same_upd (o := .tup [.str (srt w), .str y]) nu
        refine fun uu s4 rr k4 => q _ uu ⟨w, y, ""⟩ s4 _ rr (Nat.le_trans ks (Nat.le_trans k3 k4)) ⟨hw, fun _ => rfl, u, rfl, .inr ⟨(by show 2 ≤ w; omega), ?_⟩⟩ ⟨(by show y.length < 100; omega), (by show ("" : Str).length < 100; decide), fun _ => short_of hy sz (show 1 ≤ y.length by omega) (show y.length ≤ 8 by omega), fun e => absurd (show w < 2 from e) (by omega), fun e => absurd (show w = 2 from e) w2⟩ ⟨.inr (by show (y.length : Int) ≤ b; omega), .inl (by show ((0 : Nat) : Int) ≤ 2; decide)⟩ ((pen3.keep su).le (by omega)) ((bT.trans bb3).trans (But.same su))
        show upd H3 u _ u = some (.tup (.str (srt w) :: .str y :: (if w < 3 then [.str ""] else [])))
        rw [if_neg w3, upd_same]
end
end LA
end
section
set_option Elab.async false
set_option linter.all false
set_option maxRecDepth 100000
set_option maxHeartbeats 4100000
namespace LA
open PySem L2 XS XT XK XW
/-! ### First and Every made: their texts are known with their tokens -/
/-- the dict of a change that puts one text in the place of another -/
def pairM (y z : Str) (t u : Tok) : Str → Option Value := fun n => if n = "_new" then some (.str z u) else if n = "_old" then some (.str y t) else none
theorem pair_rel {y z : Str} {t u : Tok} : RelF [("_old", .str y), ("_new", .str z)] (pairM y z t u) := by
  refine ⟨fun f => ?_, fun f h => ?_, by show 2 ≤ 1000; decide⟩
  · unfold pairM
    by_cases h1 : f = "_new"
    · subst h1
      rw [if_pos rfl]
      exact ⟨u, rfl⟩
    · rw [if_neg h1]
      by_cases h2 : f = "_old"
      · subst h2
        rw [if_pos rfl]
        exact ⟨t, rfl⟩
      · rw [if_neg h2]
        have e : ([("_old", V.str y), ("_new", V.str z)] : List (Str × V)).lookup f = none := by
          rw [List.lookup_cons, List.lookup_cons, beq_eq_false_iff_ne.mpr h2, beq_eq_false_iff_ne.mpr h1]
          rfl
        rw [e]
        exact True.intro
  · unfold pairM at h
    by_cases h1 : f = "_new"
    · subst h1
      exact List.mem_cons_of_mem _ List.mem_cons_self
    · rw [if_neg h1] at h
      by_cases h2 : f = "_old"
      · subst h2
        exact List.mem_cons_self
      · rw [if_neg h2] at h
        exact absurd rfl h
section
variable {P : Program} {w : World} {K : PySem.W.Frag} {mg : Str → Option Value} {base : Heap} {t1 t2 t3 t4 : Tok}
/-- all but the new object and its dict -/
def But2 (a dx : Addr) (H H' : Hp) : Prop := ∀ b o, H b = some o → b ≠ a → b ≠ dx → H' b = some o
/-- the making of a change of two texts whose tokens are told -/
def spInitW (C : Addr) (D : Addr) : SpW := fun vs us s H Q E => ∃ (a dx : Addr) (x y : Str) (t u : Tok), vs = [.ref a, .str x, .str y] ∧ us = [.ref a, .str x t, .str y u] ∧ H a = some (.ins C dx []) ∧
  Two D (okv shortB) newB2 "old" "new" H (.str x) (.str y) E (∀ s' H', s.toks ≤ s'.toks → RIns H' a C dx (pairM x y t u) → But2 a dx H H' → Q .non .none s' H')
theorem pnd3 : (["self", "old", "new"] : List Str).Nodup := by decide +kernel
theorem ok_IFirstW {f f1 C D : Addr} {fd fd1 : FuncData} (F : Fun K "__init__" "First.__init__" sIFirst f fd) (T : C2 K C "_old" "_new") (M : CallX P w K mg base 5 "check_pair" ["old", "new"] (spChkP D) f1 fd1) :
    FnRaw P w K mg base (L2.CX P w) 6 f fd ["self", "old", "new"] (spInitW C D) := by
  refine fun_rawX F scIFirst (fun vs us s H Q E h => ?_) (fun cdv A outer s s1 H us vs Q E hr bg rv h => ?_)
  · obtain ⟨a, dx, x, y, t, u, rfl, _⟩ := h
    rfl
  · obtain ⟨a, dx, x, y, t, u, rfl, rfl, ha, tw⟩ := h
    obtain ⟨m, hm, hv⟩ := bg.ns
    have m0 : m "self" = some (.ref a) := hv 0 _ _ rfl rfl rfl
    have m1 : m "old" = some (.str x t) := hv 1 _ _ rfl rfl rfl
    have m2 : m "new" = some (.str y u) := hv 2 _ _ rfl rfl rfl
    refine ⟨_, pssw_cons (by exact (psw_expr (pew_call (FnRaw.of M.ok) hr rfl M.m M.k M.b (passes_call (takes_of rfl rfl rfl rfl) (fun _ _ _ _ h => h)) (paw_cons (pew_name (i := 1) rfl rfl) (paw_cons (pew_name (i := 2) rfl rfl) paw_nil)))))
      (pssw_cons (by exact (psw_fld (pew_name (i := 0) rfl rfl) (pew_name (i := 1) rfl rfl)))
      (pssw_one (by exact (psw_fldR (pew_name (i := 0) rfl rfl) (pew_name (i := 2) rfl rfl))))), ?_⟩
    refine ⟨_, m, _, rfl, hm, m1, fun _ => ⟨_, m, _, rfl, hm, m2, fun _ => ?_⟩⟩
    refine ⟨_, _, rfl, tw.imp fun q H1 sm => fun uu s2 _ k2 kp2 => ?_⟩
    have hm2 := kp2.fr m hm
    refine ⟨_, m, _, rfl, hm2, m1, fun _ => ⟨_, m, _, rfl, hm2, m0, fun _ => ⟨a, C, dx, [], rfl, sm _ _ ha, T.cls, T.one, by decide, fun mm s3 O r O3 kp3 => ?_⟩⟩⟩
    have hm3 := kp3.fr m hm2
    have e0 : mm = fun _ => none := funext fun g => RelO.none_of (r g)
    subst e0
    refine ⟨_, m, _, rfl, hm3, m2, fun _ => ⟨_, m, _, rfl, hm3, m0, fun _ => ⟨a, C, dx, _, rfl, upd_same, T.cls, T.oth, (by show 1 < 1000; decide), fun mm' s4 O' r' ho ne kp4 => ?_⟩⟩⟩
    have e1 := objm_inj O' O3
    subst e1
    refine q s4 _ (Nat.le_trans bg.tk (Nat.le_trans kp2.tk (Nat.le_trans kp3.tk kp4.tk))) (rawH_ins ne) fun b o e h1 h2 => ?_
    unfold rawH
    rw [upd_ne h2, upd_ne h1, upd_ne h1]
    exact sm _ _ e
theorem ok_IEveryW {f f1 C D : Addr} {fd fd1 : FuncData} (F : Fun K "__init__" "Every.__init__" sIEvery f fd) (T : C2 K C "_old" "_new") (M : CallX P w K mg base 5 "check_pair" ["old", "new"] (spChkP D) f1 fd1) :
    FnRaw P w K mg base (L2.CX P w) 6 f fd ["self", "old", "new"] (spInitW C D) := by
  refine fun_rawX F scIEvery (fun vs us s H Q E h => ?_) (fun cdv A outer s s1 H us vs Q E hr bg rv h => ?_)
  · obtain ⟨a, dx, x, y, t, u, rfl, _⟩ := h
    rfl
  · obtain ⟨a, dx, x, y, t, u, rfl, rfl, ha, tw⟩ := h
    obtain ⟨m, hm, hv⟩ := bg.ns
    have m0 : m "self" = some (.ref a) := hv 0 _ _ rfl rfl rfl
    have m1 : m "old" = some (.str x t) := hv 1 _ _ rfl rfl rfl
    have m2 : m "new" = some (.str y u) := hv 2 _ _ rfl rfl rfl
    refine ⟨_, pssw_cons (by exact (psw_expr (pew_call (FnRaw.of M.ok) hr rfl M.m M.k M.b (passes_call (takes_of rfl rfl rfl rfl) (fun _ _ _ _ h => h)) (paw_cons (pew_name (i := 1) rfl rfl) (paw_cons (pew_name (i := 2) rfl rfl) paw_nil)))))
      (pssw_cons (by exact (psw_fld (pew_name (i := 0) rfl rfl) (pew_name (i := 1) rfl rfl)))
      (pssw_one (by exact (psw_fldR (pew_name (i := 0) rfl rfl) (pew_name (i := 2) rfl rfl))))), ?_⟩
    refine ⟨_, m, _, rfl, hm, m1, fun _ => ⟨_, m, _, rfl, hm, m2, fun _ => ?_⟩⟩
    refine ⟨_, _, rfl, tw.imp fun q H1 sm => fun uu s2 _ k2 kp2 => ?_⟩
    have hm2 := kp2.fr m hm
    refine ⟨_, m, _, rfl, hm2, m1, fun _ => ⟨_, m, _, rfl, hm2, m0, fun _ => ⟨a, C, dx, [], rfl, sm _ _ ha, T.cls, T.one, by decide, fun mm s3 O r O3 kp3 => ?_⟩⟩⟩
    have hm3 := kp3.fr m hm2
    have e0 : mm = fun _ => none := funext fun g => RelO.none_of (r g)
    subst e0
    refine ⟨_, m, _, rfl, hm3, m2, fun _ => ⟨_, m, _, rfl, hm3, m0, fun _ => ⟨a, C, dx, _, rfl, upd_same, T.cls, T.oth, (by show 1 < 1000; decide), fun mm' s4 O' r' ho ne kp4 => ?_⟩⟩⟩
    have e1 := objm_inj O' O3
    subst e1
    refine q s4 _ (Nat.le_trans bg.tk (Nat.le_trans kp2.tk (Nat.le_trans kp3.tk kp4.tk))) (rawH_ins ne) fun b o e h1 h2 => ?_
    unfold rawH
    rw [upd_ne h2, upd_ne h1, upd_ne h1]
    exact sm _ _ e
end
end LA
end
section
set_option Elab.async false
set_option linter.all false
set_option maxRecDepth 100000
set_option maxHeartbeats 4100000
/-! dict(zip(text, text)) -/
namespace XZt
open PySem PySem.Spec PyProof.Rows
section
variable {prog : Program} {w : World} {A : Around} {E : Value → Shared → Prop} {s : Shared} {z TI TO T i1 i2 : Addr} {fp1 fp2 : List Addr} {n1 n2 i : Nat} {P1 P2 : Nat → Value → Prop} {St1 St2 : Nat → Heap → Prop} {f : Bool} {oT : Obj}
theorem zipD_item_held {Q : Value → Shared → Prop} (S : ZipSep2 z TI TO i1 i2 fp1 fp2) (D1 : Draws prog w A i1 fp1 n1 P1 St1) (D2 : Draws prog w A i2 fp2 n2 P2 St2)
    (hz : IsZipHeld s.heap z TI TO T f) (hT : s.heap.get? T = some oT) (hTI : IsTupOf2 s.heap TI (.ref i1) (.ref i2)) (st1 : St1 i s.heap) (st2 : St2 i s.heap) (hlt1 : i < n1) (hlt2 : i < n2)
    (hQ : ∀ x1 x2 h' tk, P1 i x1 → P2 i x2 → IsZipHeld h' z TI TO T true → St1 (i + 1) h' → St2 (i + 1) h' → IsTupOf2 h' s.heap.objs.size x1 x2 → h'.objs.size = s.heap.objs.size + 1 →
      (∀ c o, c ≠ z → c ≠ i1 → c ≠ i2 → s.heap.get? c = some o → h'.get? c = some o) → Q (.ref s.heap.objs.size) { s with heap := h', toks := tk }) :
    wpAny (model prog w) A (Builtin.«zip.__next__» ⟨[.ref z], []⟩) (fun fin s' => ∃ v, fin = .done (.ret v) ∧ Q v s') E s := by
  obtain ⟨hp, g, d, tk0, os⟩ := s
  show wpAny _ _ (field (.ref z) 2 >>= _) _ _ _
  refine wpAny_bind (wpAny_field hz rfl (x := .bool false) rfl ?_)
  show wpAny _ _ (field (.ref z) 3 >>= _) _ _ _
  refine wpAny_bind (wpAny_field hz rfl (x := .ref TI) rfl ?_)
  refine wpAny_bind (wpAny_seqItems hTI rfl ?_)
  show wpAny _ _ (Builtin.SmallTypes.ownedTupleIsFree (.ref z) >>= _) _ _ _
  refine wpAny_bind (wpAny_tupleHeld_zip hz hT fun g0 hz0 hs0 => ?_)
  replace hs0 : Heap.SameBut z hp g0 := hs0
  simp only [Bool.false_eq_true, if_false]
  refine wpAny_bind ?_
  rw [← Array.forIn_toList]
  simp only [List.forIn_cons, List.forIn_nil]
  refine wpAny_bind (wpAny_bind (wpAny_holding ?_))
  show wpAny _ _ (Builtin.SmallTypes.nextOf (.ref i1) >>= _) _ _ ⟨g0, g, d, tk0, os⟩
  refine wpAny_bind (D1.item i _ _ _ hlt1 (D1.over st1 hs0 S.zf1) fun x1 p1 tk1 hx1 sn1 hp1 => wpAny_pure ?_)
  replace hp1 : Heap.SameBut i1 g0 p1 := hp1
  refine wpAny_pure ?_
  refine wpAny_bind (wpAny_bind (wpAny_holding ?_))
  show wpAny _ _ (Builtin.SmallTypes.nextOf (.ref i2) >>= _) _ _ ⟨p1, g, d, tk1, os⟩
  refine wpAny_bind (D2.item i _ _ _ hlt2 (D2.over (D2.over st2 hs0 S.zf2) hp1 S.sep1_2) fun x2 p2 tk2 hx2 sn2 hp2 => wpAny_pure ?_)
  replace hp2 : Heap.SameBut i2 p1 p2 := hp2
  refine wpAny_pure (wpAny_pure ?_)
  show wpAny _ _ (newTuple [x1, x2] >>= _) _ _ ⟨p2, g, d, tk2, os⟩
  refine wpAny_bind (wpAny_newTuple ?_)
  have hsz : p2.objs.size = hp.objs.size := by rw [hp2.1, hp1.1, hs0.1]
  have hz3 : IsZipHeld p2 z TI TO T true := hp2.extBut _ _ S.zi2 (hp1.extBut _ _ S.zi1 hz0)
  have hk : ∀ c o, c ≠ z → c ≠ i1 → c ≠ i2 → hp.get? c = some o → p2.get? c = some o := fun c o c1 c2 c3 e => hp2.extBut _ _ c3 (hp1.extBut _ _ c2 (hs0.extBut _ _ c1 e))
  have hj1 : St1 (i + 1) p2 := D1.over sn1 hp2 S.sep2_1
  refine wpAny_pure ⟨_, rfl, ?_⟩
  show Q (.ref p2.objs.size) _
  have hq : IsTupOf2 (p2.push { cls := .type "tuple", data := .seq #[x1, x2] }) p2.objs.size x1 x2 := Heap.get?_push_size _ rfl
  have hz4 : (p2.push { cls := .type "tuple", data := .seq #[x1, x2] }).objs.size = p2.objs.size + 1 := Heap.size_push ..
  rw [hsz] at hq hz4 ⊢
  exact hQ x1 x2 _ tk2 hx1 hx2 (Heap.get?_push_of_some _ hz3) (D1.frame _ _ _ hj1 fun b _ o e => Heap.get?_push_of_some _ e) (D2.frame _ _ _ sn2 fun b _ o e => Heap.get?_push_of_some _ e) hq hz4 fun c o c1 c2 c3 e => Heap.get?_push_of_some _ (hk c o c1 c2 c3 e)
theorem zipD_end_held {Q : Fin → Shared → Prop} (S : ZipSep2 z TI TO i1 i2 fp1 fp2) (D1 : Draws prog w A i1 fp1 n1 P1 St1) (D2 : Draws prog w A i2 fp2 n2 P2 St2)
    (hz : IsZipHeld s.heap z TI TO T f) (hT : s.heap.get? T = some oT) (hTI : IsTupOf2 s.heap TI (.ref i1) (.ref i2)) (st1 : St1 i s.heap) (st2 : St2 i s.heap) (hle1 : i ≤ n1) (hle2 : i ≤ n2) (hend : i = n1 ∨ i = n2)
    (hE : ∀ h' tk e, (∀ c o, c ≠ z → c ≠ i1 → c ≠ i2 → s.heap.get? c = some o → h'.get? c = some o) → (∃ o, h'.get? e = some o ∧ o.cls = .type "StopIteration") → E (.ref e) { s with heap := h', toks := tk }) :
    wpAny (model prog w) A (Builtin.«zip.__next__» ⟨[.ref z], []⟩) Q E s := by
  obtain ⟨hp, g, d, tk0, os⟩ := s
  show wpAny _ _ (field (.ref z) 2 >>= _) _ _ _
  refine wpAny_bind (wpAny_field hz rfl (x := .bool false) rfl ?_)
  show wpAny _ _ (field (.ref z) 3 >>= _) _ _ _
  refine wpAny_bind (wpAny_field hz rfl (x := .ref TI) rfl ?_)
  refine wpAny_bind (wpAny_seqItems hTI rfl ?_)
  show wpAny _ _ (Builtin.SmallTypes.ownedTupleIsFree (.ref z) >>= _) _ _ _
  refine wpAny_bind (wpAny_tupleHeld_zip hz hT fun g0 hz0 hs0 => ?_)
  replace hs0 : Heap.SameBut z hp g0 := hs0
  simp only [Bool.false_eq_true, if_false]
  refine wpAny_bind ?_
  rw [← Array.forIn_toList]
  simp only [List.forIn_cons, List.forIn_nil]
  refine wpAny_bind (wpAny_bind (wpAny_holding ?_))
  show wpAny _ _ (Builtin.SmallTypes.nextOf (.ref i1) >>= _) _ _ ⟨g0, g, d, tk0, os⟩
  by_cases hlt1 : i < n1
  · refine wpAny_bind (D1.item i _ _ _ hlt1 (D1.over st1 hs0 S.zf1) fun x1 p1 tk1 hx1 sn1 hp1 => wpAny_pure ?_)
    replace hp1 : Heap.SameBut i1 g0 p1 := hp1
    refine wpAny_pure ?_
    refine wpAny_bind (wpAny_bind (wpAny_holding ?_))
    show wpAny _ _ (Builtin.SmallTypes.nextOf (.ref i2) >>= _) _ _ ⟨p1, g, d, tk1, os⟩
    have hi2 : i = n2 := by omega
    refine wpAny_bind (D2.done ⟨p1, g, d, tk1, os⟩ _ _ (by rw [← hi2]; exact D2.over (D2.over st2 hs0 S.zf2) hp1 S.sep1_2) fun q e hq he => ?_)
    exact hE q tk1 e (fun c o cz c1 c2 x => hq _ _ c2 (hp1.extBut _ _ c1 (hs0.extBut _ _ cz x))) he
  · have hi1 : i = n1 := by omega
    refine wpAny_bind (D1.done ⟨g0, g, d, tk0, os⟩ _ _ (by rw [← hi1]; exact D1.over st1 hs0 S.zf1) fun q e hq he => ?_)
    exact hE q tk0 e (fun c o cz c1 c2 x => hq _ _ c1 (hs0.extBut _ _ cz x)) he
theorem pyNext_held_item {Q : Option Value → Shared → Prop} (S : ZipSep2 z TI TO i1 i2 fp1 fp2) (D1 : Draws prog w A.in1 i1 fp1 n1 P1 St1) (D2 : Draws prog w A.in1 i2 fp2 n2 P2 St2)
    (hz : IsZipHeld s.heap z TI TO T f) (hT : s.heap.get? T = some oT) (hTI : IsTupOf2 s.heap TI (.ref i1) (.ref i2)) (st1 : St1 i s.heap) (st2 : St2 i s.heap) (hlt1 : i < n1) (hlt2 : i < n2)
    (hQ : ∀ x1 x2 h' tk, P1 i x1 → P2 i x2 → IsZipHeld h' z TI TO T true → St1 (i + 1) h' → St2 (i + 1) h' → IsTupOf2 h' s.heap.objs.size x1 x2 → h'.objs.size = s.heap.objs.size + 1 →
      (∀ c o, c ≠ z → c ≠ i1 → c ≠ i2 → s.heap.get? c = some o → h'.get? c = some o) → Q (some (.ref s.heap.objs.size)) { s with heap := h', toks := tk }) :
    wpAny (model prog w) A (pyNext (.ref z)) Q E s := by
  have hTy : s.TypeIs (.ref z) "zip" := ⟨_, hz, rfl⟩
  unfold pyNext
  exact wpAny_bind (wpAny_attempt (wpAny_callSpecial?_slot (name := Str.ofString "__next__") hTy F.slot_zip_next
    (wpAny_call_entry F.slot_zip_next hTy F.entry_zip_next
      (zipD_item_held S D1 D2 hz hT hTI st1 st2 hlt1 hlt2 fun x1 x2 h' tk a1 a2 a3 a4 a5 a6 a7 a8 => wpAny_pure (hQ x1 x2 h' tk a1 a2 a3 a4 a5 a6 a7 a8)) (F.args_zip_next_1 _))))
theorem pyNext_held_end {Q : Option Value → Shared → Prop} (S : ZipSep2 z TI TO i1 i2 fp1 fp2) (D1 : Draws prog w A.in1 i1 fp1 n1 P1 St1) (D2 : Draws prog w A.in1 i2 fp2 n2 P2 St2)
    (hz : IsZipHeld s.heap z TI TO T f) (hT : s.heap.get? T = some oT) (hTI : IsTupOf2 s.heap TI (.ref i1) (.ref i2)) (st1 : St1 i s.heap) (st2 : St2 i s.heap) (hle1 : i ≤ n1) (hle2 : i ≤ n2) (hend : i = n1 ∨ i = n2)
    (hQ : ∀ h' tk, (∀ c o, c ≠ z → c ≠ i1 → c ≠ i2 → s.heap.get? c = some o → h'.get? c = some o) → Q none { s with heap := h', toks := tk }) : wpAny (model prog w) A (pyNext (.ref z)) Q E s := by
  have hTy : s.TypeIs (.ref z) "zip" := ⟨_, hz, rfl⟩
  unfold pyNext
  refine wpAny_bind (wpAny_attempt (wpAny_callSpecial?_slot (name := Str.ofString "__next__") hTy F.slot_zip_next
    (wpAny_call_entry F.slot_zip_next hTy F.entry_zip_next (zipD_end_held S D1 D2 hz hT hTI st1 st2 hle1 hle2 hend fun h' tk e hk he => ?_) (F.args_zip_next_1 _))))
  obtain ⟨o, ho, hc⟩ := he
  refine wpAny_bind (wpAny_isInstance (T := "StopIteration") (b := true) ⟨o, ho, hc⟩ isSubtype_stop ?_)
  exact wpAny_pure (hQ _ _ hk)
end
/-- the cells of a zip lie apart -/
structure Apart (z TI TO i1 i2 : Addr) : Prop where
  TIz : TI ≠ z
  TOz : TO ≠ z
  i1z : i1 ≠ z
  i2z : i2 ≠ z
  TITO : TI ≠ TO
  TIi1 : TI ≠ i1
  TIi2 : TI ≠ i2
  TOi1 : TO ≠ i1
  TOi2 : TO ≠ i2
  i12 : i1 ≠ i2
theorem Apart.sep {z TI TO i1 i2 : Addr} (D : Apart z TI TO i1 i2) : ZipSep2 z TI TO i1 i2 [i1] [i2] :=
  ⟨D.TIz, D.TOz, D.TITO, D.TIi1, List.mem_singleton.mpr rfl, fun h => D.i1z (List.mem_singleton.mp h).symm, fun h => D.TOi1 (List.mem_singleton.mp h), D.TIi2, List.mem_singleton.mpr rfl, fun h => D.i2z (List.mem_singleton.mp h).symm, fun h => D.TOi2 (List.mem_singleton.mp h),
    fun h => D.i12 (List.mem_singleton.mp h), fun h => D.i12 (List.mem_singleton.mp h).symm⟩
theorem stIter_at {h h' : Heap} {a : Addr} {ty : String} {x : Str} {t : Tok} {i : Nat} (y : h.IsStrIter a ty x t i) (e : ∀ o, h.get? a = some o → h'.get? a = some o) : h'.IsStrIter a ty x t i := let ⟨o, ho, r⟩ := y; ⟨o, e _ ho, r⟩
section
variable {prog : Program} {w : World}
theorem pairZip (z TI TO i1 i2 : Addr) (D : Apart z TI TO i1 i2) (x y : Str) (t u : Tok) :
    PairArg prog w "zip" z [z, TI, TO, i1, i2] [z, TO, i1, i2] (min x.cps.size y.cps.size) (fun i k v => ∃ (c d : Nat) (a b : Tok), x.cps[i]? = some c ∧ y.cps[i]? = some d ∧ k = .str ⟨#[c]⟩ a ∧ v = .str ⟨#[d]⟩ b)
      (fun h => IsZip h z TI TO .none ∧ IsPair h TI (.ref i1) (.ref i2) ∧ (∃ a b, IsPair h TO a b) ∧ h.IsStrIter i1 (strIterType x) x t 0 ∧ h.IsStrIter i2 (strIterType y) y u 0) where
  type := fun s ok => ⟨_, ok.1, rfl⟩
  notDict := by decide
  keep := fun h h' ok hk => by
    obtain ⟨hz, hTI, ⟨a, b, hTO⟩, h1, h2⟩ := ok
    exact ⟨hk _ _ hz, hk _ _ hTI, ⟨a, b, hk _ _ hTO⟩, stIter_at h1 fun o e => hk _ o e, stIter_at h2 fun o e => hk _ o e⟩
  there := fun h ok b hb => by
    obtain ⟨hz, hTI, ⟨a, c, hTO⟩, ⟨o1, h1, _⟩, ⟨o2, h2, _⟩⟩ := ok
    simp only [List.mem_cons, List.not_mem_nil, or_false] at hb
    rcases hb with rfl | rfl | rfl | rfl | rfl
    all_goals first | exact ⟨_, hz⟩ | exact ⟨_, hTI⟩ | exact ⟨_, hTO⟩ | exact ⟨_, h1⟩ | exact ⟨_, h2⟩
  sub := fun b hb => by simp at hb ⊢; rcases hb with rfl | rfl | rfl | rfl <;> simp
  noKeys := fun A s Q E hA ok h => getAttrOr_miss_zip ok.1 rfl rfl rfl zip_no_keys (by decide +kernel) hA h
  iter := fun A s d Q E hA ok hd hdf h => by
    obtain ⟨hz, hTI, ⟨a, b, hTO⟩, h1, h2⟩ := ok
    simp only [List.mem_cons, List.not_mem_nil, or_false, not_or] at hdf
    obtain ⟨dz, dTI, dTO, di1, di2⟩ := hdf
    have S := D.sep
    have D1 : Draws prog w A.in1 i1 [i1] x.cps.size _ _ := Draws.text (prog := prog) (w := w) (A := A.in1) hA i1 x t
    have D2 : Draws prog w A.in1 i2 [i2] y.cps.size _ _ := Draws.text (prog := prog) (w := w) (A := A.in1) hA i2 y u
    refine wpAny_pyIter_zip hz (h z [z, TO, i1, i2] (fun i h => IsPair h TI (.ref i1) (.ref i2) ∧ h.IsStrIter i1 (strIterType x) x t i ∧ h.IsStrIter i2 (strIterType y) y u i ∧
      ((IsZip h z TI TO .none ∧ ∃ a b, IsPair h TO a b) ∨ ∃ T f oT, IsZipHeld h z TI TO T f ∧ h.get? T = some oT ∧ T ≠ z ∧ T ≠ i1 ∧ T ≠ i2 ∧ T ≠ d)) s.heap s.toks ?_
      ⟨hTI, h1, h2, .inl ⟨hz, a, b, hTO⟩⟩ (fun _ _ e => e) fun b hb => .inl hb)
    exact {
      off := fun hm => by
        simp only [List.mem_cons, List.not_mem_nil, or_false] at hm
        rcases hm with e | e | e | e
        · exact dz e
        · exact dTO e
        · exact di1 e
        · exact di2 e
      frame := fun i h₁ h₂ st hk => by
        obtain ⟨hTI, h1, h2, hz⟩ := st
        refine ⟨hk _ _ (Ne.symm dTI) hTI, stIter_at h1 fun o e => hk _ o (Ne.symm di1) e, stIter_at h2 fun o e => hk _ o (Ne.symm di2) e, ?_⟩
        rcases hz with ⟨hz, a, b, hTO⟩ | ⟨T, f, oT, hz, hT, r1, r2, r3, r4⟩
        · exact .inl ⟨hk _ _ (Ne.symm dz) hz, a, b, hk _ _ (Ne.symm dTO) hTO⟩
        · exact .inr ⟨T, f, oT, hk _ _ (Ne.symm dz) hz, hk _ _ r4 hT, r1, r2, r3, r4⟩
      item := fun i s₁ Q₁ E₁ hi st hds hQ => by
        obtain ⟨hTI, h1, h2, hz⟩ := st
        have hix : i < x.cps.size := Nat.lt_of_lt_of_le hi (Nat.min_le_left ..)
        have hiy : i < y.cps.size := Nat.lt_of_lt_of_le hi (Nat.min_le_right ..)
        have lt : ∀ {c o}, s₁.heap.get? c = some o → s₁.heap.objs.size ≠ c := fun e => Nat.ne_of_gt (Heap.lt_size e)
        have n1 : s₁.heap.objs.size ≠ i1 := let ⟨_, e, _⟩ := h1; lt e
        have n2 : s₁.heap.objs.size ≠ i2 := let ⟨_, e, _⟩ := h2; lt e
        rcases hz with ⟨hz, a, b, hTO⟩ | ⟨T, f, oT, hz, hT, r1, r2, r3, r4⟩
        · refine wpAny_pyNext_zipD2_item S D1 D2 hz hTI hTO h1 h2 hix hiy fun x1 x2 h' tk p1 p2 a1 a2 a3 a4 a5 a6 hk => ?_
          obtain ⟨c1, t1, e1, rfl⟩ := p1
          obtain ⟨c2, t2, e2, rfl⟩ := p2
          exact hQ s₁.heap.objs.size _ _ h' tk ⟨c1, c2, t1, t2, e1, e2, rfl, rfl⟩ (.inl ⟨_, a5, rfl, _, rfl⟩)
            ⟨hk _ _ D.TIz D.TITO D.TIi1 D.TIi2 hTI, a3, a4,
              .inr ⟨s₁.heap.objs.size, false, _, a1, a5, lt hz, n1, n2, Nat.ne_of_gt hds⟩⟩
            fun c o hc e => hk c o (fun x => hc (by simp [x])) (fun x => hc (by simp [x])) (fun x => hc (by simp [x])) (fun x => hc (by simp [x])) e
        · refine pyNext_held_item S D1 D2 hz hT hTI h1 h2 hix hiy fun x1 x2 h' tk p1 p2 a1 a3 a4 a5 a6 hk => ?_
          obtain ⟨c1, t1, e1, rfl⟩ := p1
          obtain ⟨c2, t2, e2, rfl⟩ := p2
          exact hQ s₁.heap.objs.size _ _ h' tk ⟨c1, c2, t1, t2, e1, e2, rfl, rfl⟩ (.inl ⟨_, a5, rfl, _, rfl⟩)
            ⟨hk _ _ D.TIz D.TIi1 D.TIi2 hTI, a3, a4,
              .inr ⟨T, true, oT, a1, hk _ _ r1 r2 r3 hT, r1, r2, r3, r4⟩⟩
            fun c o hc e => hk c o (fun x => hc (by simp [x])) (fun x => hc (by simp [x])) (fun x => hc (by simp [x])) e
      done := fun s₁ Q₁ E₁ st hQ => by
        obtain ⟨hTI, h1, h2, hz⟩ := st
        have hend : min x.cps.size y.cps.size = x.cps.size ∨ min x.cps.size y.cps.size = y.cps.size := by omega
        rcases hz with ⟨hz, a, b, hTO⟩ | ⟨T, f, oT, hz, hT, r1, r2, r3, r4⟩
        · exact wpAny_pyNext_zipD2_end S D1 D2 hz hTI hTO h1 h2 (Nat.min_le_left ..) (Nat.min_le_right ..) hend fun h' tk hk => hQ h' tk fun c o hc e => hk c o (fun x => hc (by simp [x])) (fun x => hc (by simp [x])) (fun x => hc (by simp [x])) (fun x => hc (by simp [x])) e
        · exact pyNext_held_end S D1 D2 hz hT hTI h1 h2 (Nat.min_le_left ..) (Nat.min_le_right ..) hend fun h' tk hk => hQ h' tk fun c o hc e => hk c o (fun x => hc (by simp [x])) (fun x => hc (by simp [x])) (fun x => hc (by simp [x])) e }
end
end XZt
end
section
set_option Elab.async false
set_option linter.all false
set_option maxRecDepth 100000
set_option maxHeartbeats 4100000
/-! dict(zip(text, text)) as a rule -/
namespace XZt
open PySem PySem.Spec PyProof.Rows L2 XS
/-- the pairs of letters of two texts -/
def zipKV (x y : Str) : List (Key × V) := ((cod x).zip (cod y)).map fun p => (Sum.inr (sg p.1), V.str (sg p.2))
theorem zip_len (x y : Str) : (zipKV x y).length = min x.cps.size y.cps.size := by
  unfold zipKV
  rw [List.length_map, List.length_zip, len_cod, len_cod]
  rfl
theorem zip_at {x y : Str} {i c d : Nat} (h1 : x.cps[i]? = some c) (h2 : y.cps[i]? = some d) : (zipKV x y)[i]? = some (Sum.inr (sg c), V.str (sg d)) := by
  have e1 : (cod x)[i]? = some c := by show x.cps.toList[i]? = some c; rw [Array.getElem?_toList]; exact h1
  have e2 : (cod y)[i]? = some d := by show y.cps.toList[i]? = some d; rw [Array.getElem?_toList]; exact h2
  unfold zipKV
  rw [List.getElem?_map, List.getElem?_zip_eq_some.mpr (show (cod x)[i]? = some (c, d).1 ∧ (cod y)[i]? = some (c, d).2 from ⟨e1, e2⟩)]
  rfl
theorem mergeK_take (l : List (Key × V)) (i : Nat) (k : Key) (v : V) (h : l[i]? = some (k, v)) : mergeK [] (l.take (i + 1)) = putK (mergeK [] (l.take i)) k v := by
  unfold mergeK
  rw [List.take_add_one, h, List.foldl_append]
  rfl
section
variable {prog : Program} {w : World} {A : Around} {E : Value → Shared → Prop} {s : Shared}
theorem dict_zip {z TI TO i1 i2 : Addr} (D : Apart z TI TO i1 i2) {x y : Str} {t u : Tok} {Q : Value → Shared → Prop} (hh : A.handled = none) (small : min x.cps.size y.cps.size < 1000)
    (ok : IsZip s.heap z TI TO .none ∧ IsPair s.heap TI (.ref i1) (.ref i2) ∧ (∃ a b, IsPair s.heap TO a b) ∧ s.heap.IsStrIter i1 (strIterType x) x t 0 ∧ s.heap.IsStrIter i2 (strIterType y) y u 0)
    (h : ∀ h' tk vs, KV (mergeK [] (zipKV x y)) vs → h'.DictOf (mixKind prog w) s.heap.objs.size vs → (∀ b o, b ∉ [z, TO, i1, i2] → s.heap.get? b = some o → h'.get? b = some o) → Q (.ref s.heap.objs.size) { s with heap := h', toks := tk }) :
    wpAny (model prog w) A (call (.type "dict") [.ref z]) Q E s := by
  have P := pairZip (prog := prog) (w := w) z TI TO i1 i2 D x y t u
  refine call_dict_arg P ok fun s₁ hs₁ hdf ok₁ => ?_
  subst hs₁
  refine updateFrom_arg (A := A.in1) (Tab := fun i h => ∃ vs, KV (mergeK [] ((zipKV x y).take i)) vs ∧ h.DictOf (mixKind prog w) s.heap.objs.size vs) P .none hh ok₁ hdf ⟨[], .nil, Heap.DictOf.new s.heap⟩
    (fun _ _ tb => let ⟨_, _, d⟩ := tb; d.lt_size) (fun i h h' wr' hd _ tb hk => let ⟨vs, r, d⟩ := tb; ⟨vs, r, d.at' fun o e => hk _ o hd e⟩) ?_ ?_
  · rintro i key v s' Q' E' hi ⟨c, d, a, b, h1, h2, rfl, rfl⟩ ⟨vs, r, tb⟩ _ hQ
    have hl : vs.length ≤ i := by
      have e1 := r.length
      have e2 := length_mergeK ((zipKV x y).take i) []
      rw [List.length_take, List.length_nil] at e2
      omega
    refine wpAny_dictSet_pairs (hsz := by have : (1000 : Nat) ≤ sizeLine := by decide
                                          omega) (knd := mixKind prog w) (k := Sum.inr (sg c)) (keyIs_str (sg c) a) tb fun h' hm' hs => ?_
    refine hQ h' _ ⟨_, ?_, hm'⟩ hs
    rw [mergeK_take _ _ _ _ (zip_at h1 h2)]
    exact r.put _ ⟨b, rfl⟩
  · rintro h' tk ⟨vs, r, tb⟩ hk
    have e : (zipKV x y).take (min x.cps.size y.cps.size) = zipKV x y := List.take_of_length_le (Nat.le_of_eq (zip_len x y))
    rw [e] at r
    exact ⟨rfl, h h' tk vs r tb fun b o hw e => hk b o (Nat.ne_of_lt (Heap.lt_size e)) hw (Heap.get?_push_of_some _ e)⟩
end
section
variable {X : Cx} {e e2 : Expr} {t1 t2 : TE} {p1 p2 p3 p4 : Pos}
def tDictZip (t1 t2 : TE) : TE := fun σ H Q => tCons t1 (tCons t2 tNil) σ H fun vs H2 => ∃ (x y : Str), vs = [.str x, .str y] ∧ min x.cps.size y.cps.size < 1000 ∧ ∀ p, H2 p = none → Q (.ref p) (upd H2 p (.dK (mergeK [] (zipKV x y))))
theorem apart_new (n : Nat) : Apart (n + 4) (n + 2) (n + 3) n (n + 1) := by
  have h : ∀ a b : Nat, a ≠ b → n + a ≠ n + b := fun a b q e => q (Nat.add_left_cancel e)
  have h0 : ∀ a : Nat, a ≠ 0 → n ≠ n + a := fun a q e => q (Nat.add_left_cancel (e.symm.trans (Nat.add_zero n).symm))
  exact ⟨h 2 4 (by decide), h 3 4 (by decide), h0 4 (by decide), h 1 4 (by decide), h 2 3 (by decide), (h0 2 (by decide)).symm, h 2 1 (by decide), (h0 3 (by decide)).symm, h 3 1 (by decide), h0 1 (by decide)⟩
theorem pe_dictZip (hcalm : X.calm = true) (hgd : Gl X "dict") (hmd : X.mg "dict" = none) (hgz : Gl X "zip") (hmz : X.mg "zip" = none) (h1 : PE X e t1) (h2 : PE X e2 t2)
    (hs : starEach [e, e2] X.env = (false, eval e X.env) :: starEach [e2] X.env := by rfl) (hs1 : starEach [e2] X.env = (false, eval e2 X.env) :: starEach [] X.env := by rfl) (hpl : (backTo p3 (starEach [e2] X.env)).any (·.1) = false := by rfl)
    (hs2 : starEach [.Call (.Name "zip" p2) [e, e2] [] p3] X.env = (false, eval (.Call (.Name "zip" p2) [e, e2] [] p3) X.env) :: starEach [] X.env := by rfl) :
    PE X (.Call (.Name "dict" p1) [.Call (.Name "zip" p2) [e, e2] [] p3] [] p4) (tDictZip t1 t2) := by
  refine ⟨fun pins s σ H Q I h => ?_⟩
  refine wpAny_Call_Name_kw (ld_blt (u := .type "dict") I hgd hmd (by decide +kernel) ?_)
  refine PyProof.Rows.callWith_type1 ?_ hs2 rfl
  rw [hs2]
  refine Calls.spliced_cons ?_
  refine wpAny_Call_Name_kw (ld_blt I hgz hmz PyProof.Rows.boot_zip ?_)
  have ha : PA X [e, e2] (tCons t1 (tCons t2 tNil)) := pa_cons h1 (pa_cons h2 pa_nil hs1) hs
  refine PyProof.Rows.callWith_type1 (thn (ha.run p3 pins s σ H _ I h) fun us s1 ⟨vs, H1, I1, r, x, y, ev, small, q⟩ => ?_) hs hpl
  subst ev
  cases r with
  | cons r1 r =>
    cases r with
    | cons r2 r =>
      cases r
      obtain ⟨t, rfl⟩ := r1
      obtain ⟨u, rfl⟩ := r2
      refine zip_begins2 (begins_text x t) (begins_text y u) trivial trivial fun h' hz hTI hTO hi1 hi2 hsz hk => Calls.spliced_nil ?_
      refine dict_zip (s := { s1 with heap := h' }) (apart_new s1.heap.objs.size) (I.ok.hd hcalm) small ⟨hz, hTI, ⟨_, _, hTO⟩, ⟨_, hi1, rfl, rfl⟩, ⟨_, hi2, rfl, rfl⟩⟩ fun h'' tk vs kv hd kk => ?_
      have lt : s1.heap.objs.size < h'.objs.size := by rw [hsz]; omega
      have kp : ∀ b o, s1.heap.get? b = some o → h''.get? b = some o := fun b o e => kk b o (by
        have l := Heap.lt_size e
        intro hm
        simp only [List.mem_cons, List.not_mem_nil, or_false] at hm
        rcases hm with rfl | rfl | rfl | rfl
        · exact absurd l (Nat.not_lt.mpr (Nat.le_add_right _ 4))
        · exact absurd l (Nat.not_lt.mpr (Nat.le_add_right _ 3))
        · exact absurd l (Nat.lt_irrefl _)
        · exact absurd l (Nat.not_lt.mpr (Nat.le_add_right _ 1))) (hk b o e)
      have hm : (h'.objs.size == sysModules) = false := beq_eq_false_iff_ne.mpr (Nat.ne_of_gt (Nat.lt_trans I1.big lt))
      have hlen : (mergeK [] (zipKV x y)).length ≤ sizeLine := by
        have l1 := length_mergeK (zipKV x y) []
        rw [zip_len, List.length_nil] at l1
        have : (1000 : Nat) ≤ sizeLine := by decide
        omega
      exact ⟨.ref h'.objs.size, upd H1 h'.objs.size (.dK (mergeK [] (zipKV x y))), I1.laid (t' := tk) kp (Nat.le_of_lt lt) ⟨hlen, hm, vs, kv, hd⟩, rfl, q _ (I1.hok.fresh (Nat.le_of_lt lt))⟩
end
end XZt
end
section
set_option Elab.async false
set_option linter.all false
set_option maxRecDepth 100000
set_option maxHeartbeats 4100000
namespace LA
open PySem L2 XS XT XK XW XZt
/-! ### what a change does, by its texts -/
/-- the letter that stands in the place of a letter -/
def swc (l o : List Nat) (c : Nat) : Nat := if c ∈ l then o.getD (l.idxOf c) c else c
def Ch.done (c : Ch) (z : Str) : Str := match c.i with
  | 0 => replN 1 z c.a c.b
  | 1 => Txt.replace z c.a c.b
  | 2 => Txt.join "" (((cod z).map (swc (cod c.a) (cod c.b))).map sg)
  | 3 => c.a ++ z
  | _ => z ++ c.a
def Ch.place (c : Ch) (z : Str) : Bool := if c.i < 2 then !(Builtin.Str.occurrences z c.a 0 z.length 1).isEmpty else true
theorem valV_nil (k : Key) : valV ([] : List (Key × V)) k = none := rfl
/-- the value of a letter, of the pairs of two texts that are put in one after the other -/
theorem valV_zip : ∀ (l o : List Nat) (acc : List (Key × V)) (c : Nat), l.Nodup → l.length = o.length →
    valV (mergeK acc ((l.zip o).map fun p => ((Sum.inr (sg p.1) : Key), V.str (sg p.2)))) (Sum.inr (sg c)) = if c ∈ l then some (V.str (sg (o.getD (l.idxOf c) c))) else valV acc (Sum.inr (sg c))
  | [], [], acc, c, _, _ => by simp [mergeK]
  | [], _ :: _, _, _, _, h => by simp at h
  | _ :: _, [], _, _, _, h => by simp at h
  | a :: l, b :: o, acc, c, nd, h => by
    have hl : l.length = o.length := by simpa using h
    obtain ⟨na, nd'⟩ := List.nodup_cons.mp nd
    show valV (mergeK (putK acc (Sum.inr (sg a)) (V.str (sg b))) ((l.zip o).map fun p => ((Sum.inr (sg p.1) : Key), V.str (sg p.2)))) (Sum.inr (sg c)) = _
    rw [valV_zip l o _ c nd' hl, valV_put]
    by_cases e : c = a
    · subst e
      rw [if_neg na, if_pos rfl, if_pos List.mem_cons_self, List.idxOf_cons_self]
      rfl
    · have e2 : ¬ (Sum.inr (sg c) : Key) = Sum.inr (sg a) := fun z => e (sg_inj (Sum.inr.inj z))
      rw [if_neg e2]
      by_cases m : c ∈ l
      · rw [if_pos m, if_pos (List.mem_cons_of_mem _ m), List.idxOf_cons, (beq_eq_false_iff_ne.mpr (fun z => e z.symm) : (a == c) = false)]
        rfl
      · rw [if_neg m, if_neg (by simp [e, m])]
section
variable {P : Program} {w : World} {K : PySem.W.Frag} {mg : Str → Option Value} {base : Heap} {C : Nat → Addr}
/-- the program's change: First and Every are known with their tokens -/
def CA (C : Nat → Addr) (H : Hp) (c : Ch) (v : V) : Prop := c.i < 5 ∧ ∃ a dx, v = .ref a ∧ ((c.i < 2 ∧ ∃ t u, RIns H a (C c.i) dx (pairM c.a c.b t u) ∧ TkOk c.a c.b t u) ∨ (2 ≤ c.i ∧ H a = some (.ins (C c.i) dx (flds c))))
theorem CA.keep {H H' : Hp} (k : ∀ a o, H a = some o → (∃ φ, o = .ext φ) ∨ (∃ D dx fs, o = .ins D dx fs) → H' a = some o) {c : Ch} {v : V} (h : CA C H c v) : CA C H' c v := by
  obtain ⟨l, a, dx, e, h⟩ := h
  refine ⟨l, a, dx, e, ?_⟩
  rcases h with ⟨l2, t, u, r, q⟩ | ⟨l2, h⟩
  · exact .inl ⟨l2, t, u, r.keep fun b o e' hb => k b o e' (by
      rcases hb with rfl | rfl
      · rw [r.o] at e'; cases e'; exact .inl ⟨_, rfl⟩
      · rw [r.d] at e'; cases e'; exact .inl ⟨_, rfl⟩), q⟩
  · exact .inr ⟨l2, k _ _ h (.inr ⟨_, _, _, rfl⟩)⟩
theorem CA.same {H H' : Hp} (s : Same H H') {c : Ch} {v : V} (h : CA C H c v) : CA C H' c v := h.keep fun a o e _ => s _ _ e
theorem CA.but {H H' : Hp} {d : Addr} {kvs : List (Key × V)} (b : But d H H') (hd : H d = some (.dK kvs)) {c : Ch} {v : V} (h : CA C H c v) : CA C H' c v :=
  h.keep fun a o e k => b _ _ e (ne_of e hd (by rcases k with ⟨_, rfl⟩ | ⟨_, _, _, rfl⟩ <;> (intro z; cases z)))
theorem flds_two {c : Ch} (h : c.i < 2) : flds c = ([("_old", .str c.a), ("_new", .str c.b)] : List (Str × V)) := by
  obtain ⟨i, a, b⟩ := c
  match i, h with
  | 0, _ => rfl
  | 1, _ => rfl
theorem CA.ins {H : Hp} {c : Ch} {v : V} (h : CA C H c v) : ∃ a dx, v = .ref a ∧ InsA H a (C c.i) dx (flds c) := by
  obtain ⟨l, a, dx, e, h⟩ := h
  refine ⟨a, dx, e, ?_⟩
  rcases h with ⟨l2, t, u, r, q⟩ | ⟨l2, h⟩
  · exact .inr ⟨_, r, by rw [flds_two l2]; exact pair_rel⟩
  · exact .inl h
/-- done, has_place of the class at i -/
def spDone (C : Nat → Addr) (i : Nat) : Sp := fun vs H Q _ => ∃ (c : Ch) (x : V) (z : Str), vs = [x, .str z] ∧ CA C H c x ∧ c.i = i ∧ ChOk c ∧ z.length ≤ 10000 ∧ ∀ H', Same H H' → Q (.str (c.done z)) H'
def spPlace (C : Nat → Addr) (i : Nat) : Sp := fun vs H Q _ => ∃ (c : Ch) (x : V) (z : Str), vs = [x, .str z] ∧ CA C H c x ∧ c.i = i ∧ Q (.bl (c.place z)) H
theorem repl_room {z b : Str} (hz : z.length ≤ 10000) (hb : b.length < 100) : z.length + (z.length + 1) * b.length ≤ 16777216 := by
  have h1 : (z.length + 1) * b.length ≤ 10001 * 100 := Nat.mul_le_mul (by omega) (by omega)
  omega
abbrev sDFirst : Stmt := cb 15 3
theorem scDFirst : FnScope ["self", "line"] ["self", "line"] (defScope sDFirst) := ⟨rfl, rfl, rfl, by decide +kernel, rfl, by decide +kernel, by decide +kernel⟩
theorem ok_DFirst {f : Addr} {fd : FuncData} (F : Fun K "done" "First.done" sDFirst f fd) (nb : NoneBooked base) (T : C2 K (C 0) "_old" "_new") : FnOk P w K mg base CX0 1 f fd ["self", "line"] (spDone C 0) := by
  refine F.ok scDFirst (fun vs H Q E h => ?_) (fun cdv A outer s H vs Q E hr h => ?_)
  · obtain ⟨c, x, z, rfl, _⟩ := h
    rfl
  · obtain ⟨c, x, z, rfl, hc, ei, ok, hz, q⟩ := h
    refine ⟨_, pss_one (by exact (ps_ret (pe_replW1 nb (PEW.of (pv 1)) (paw_cons (pew_fldR (PEW.of (pv 0))) (paw_cons (pew_fldR (PEW.of (pv 0))) (paw_cons pew_int paw_nil)))))), ?_⟩
    obtain ⟨i, a, b⟩ := c
    obtain rfl : i = 0 := ei
    obtain ⟨_, p, dx, rfl, hc⟩ := hc
    rcases hc with ⟨_, t, u, r, k⟩ | ⟨l2, _⟩
    · exact fun s0 => ⟨_, rfl, fun _ s1 _ _ => ⟨z, rfl, _, rfl, fun _ s2 _ _ => ⟨p, C 0, dx, _, .str a, .str a t, rfl, r, T.cls, T.one, rfl, ⟨t, rfl⟩, fun s3 _ => ⟨_, rfl, fun _ s4 _ _ => ⟨p, C 0, dx, _, .str b, .str b u, rfl, r, T.cls, T.oth, rfl, ⟨u, rfl⟩, fun s5 _ => fun u3 s6 _ _ => ⟨a, b, t, u, u3, rfl, k, repl_room hz ok.lb, q H fun _ _ e => e⟩⟩⟩⟩⟩⟩
    · exact absurd (show 2 ≤ 0 from l2) (by decide)
abbrev sDEvery : Stmt := cb 16 3
theorem scDEvery : FnScope ["self", "line"] ["self", "line"] (defScope sDEvery) := ⟨rfl, rfl, rfl, by decide +kernel, rfl, by decide +kernel, by decide +kernel⟩
theorem ok_DEvery {f : Addr} {fd : FuncData} (F : Fun K "done" "Every.done" sDEvery f fd) (nb : NoneBooked base) (T : C2 K (C 1) "_old" "_new") : FnOk P w K mg base CX0 1 f fd ["self", "line"] (spDone C 1) := by
  refine F.ok scDEvery (fun vs H Q E h => ?_) (fun cdv A outer s H vs Q E hr h => ?_)
  · obtain ⟨c, x, z, rfl, _⟩ := h
    rfl
  · obtain ⟨c, x, z, rfl, hc, ei, ok, hz, q⟩ := h
    refine ⟨_, pss_one (by exact (ps_ret (pe_replW nb (PEW.of (pv 1)) (paw_cons (pew_fldR (PEW.of (pv 0))) (paw_cons (pew_fldR (PEW.of (pv 0))) paw_nil))))), ?_⟩
    obtain ⟨i, a, b⟩ := c
    obtain rfl : i = 1 := ei
    obtain ⟨_, p, dx, rfl, hc⟩ := hc
    rcases hc with ⟨_, t, u, r, k⟩ | ⟨l2, _⟩
    · exact fun s0 => ⟨_, rfl, fun _ s1 _ _ => ⟨z, rfl, _, rfl, fun _ s2 _ _ => ⟨p, C 1, dx, _, .str a, .str a t, rfl, r, T.cls, T.one, rfl, ⟨t, rfl⟩, fun s3 _ => ⟨_, rfl, fun _ s4 _ _ => ⟨p, C 1, dx, _, .str b, .str b u, rfl, r, T.cls, T.oth, rfl, ⟨u, rfl⟩, fun s5 _ => ⟨a, b, t, u, rfl, k, repl_room hz ok.lb, q H fun _ _ e => e⟩⟩⟩⟩⟩⟩
    · exact absurd (show 2 ≤ 1 from l2) (by decide)
abbrev sDFront : Stmt := cb 18 2
theorem scDFront : FnScope ["self", "line"] ["self", "line"] (defScope sDFront) := ⟨rfl, rfl, rfl, by decide +kernel, rfl, by decide +kernel, by decide +kernel⟩
theorem ok_DFront {f : Addr} {fd : FuncData} (F : Fun K "done" "Front.done" sDFront f fd) (T : C1 K (C 3) "_word") : FnOk P w K mg base CX0 1 f fd ["self", "line"] (spDone C 3) := by
  refine F.ok scDFront (fun vs H Q E h => ?_) (fun cdv A outer s H vs Q E hr h => ?_)
  · obtain ⟨c, x, z, rfl, _⟩ := h
    rfl
  · obtain ⟨c, x, z, rfl, hc, ei, ok, hz, q⟩ := h
    refine ⟨_, pss_one (by exact (ps_ret (pe_op op_add_str (pe_fld (pv 0) rfl) (pv 1)))), ?_⟩
    obtain ⟨i, a, b⟩ := c
    obtain rfl : i = 3 := ei
    obtain ⟨_, p, dx, rfl, hc⟩ := hc
    rcases hc with ⟨l2, _⟩ | ⟨_, hp⟩
    · exact absurd (show 3 < 2 from l2) (by decide)
    · have la := ok.la
      have la : a.length < 100 := la
      exact ⟨_, rfl, p, C 3, dx, _, .str a, rfl, hp, T.cls, T.no, rfl, _, rfl, a, z, rfl, rfl, Nat.le_trans (show a.length + z.length ≤ 20000 by omega) (by decide), q H fun _ _ e => e⟩
abbrev sDBehind : Stmt := cb 19 2
theorem scDBehind : FnScope ["self", "line"] ["self", "line"] (defScope sDBehind) := ⟨rfl, rfl, rfl, by decide +kernel, rfl, by decide +kernel, by decide +kernel⟩
theorem ok_DBehind {f : Addr} {fd : FuncData} (F : Fun K "done" "Behind.done" sDBehind f fd) (T : C1 K (C 4) "_word") : FnOk P w K mg base CX0 1 f fd ["self", "line"] (spDone C 4) := by
  refine F.ok scDBehind (fun vs H Q E h => ?_) (fun cdv A outer s H vs Q E hr h => ?_)
  · obtain ⟨c, x, z, rfl, _⟩ := h
    rfl
  · obtain ⟨c, x, z, rfl, hc, ei, ok, hz, q⟩ := h
    refine ⟨_, pss_one (by exact (ps_ret (pe_op op_add_str (pv 1) (pe_fld (pv 0) rfl)))), ?_⟩
    obtain ⟨i, a, b⟩ := c
    obtain rfl : i = 4 := ei
    obtain ⟨_, p, dx, rfl, hc⟩ := hc
    rcases hc with ⟨l2, _⟩ | ⟨_, hp⟩
    · exact absurd (show 4 < 2 from l2) (by decide)
    · have la := ok.la
      have la : a.length < 100 := la
      exact ⟨_, rfl, _, rfl, p, C 4, dx, _, .str a, rfl, hp, T.cls, T.no, rfl, z, a, rfl, rfl, Nat.le_trans (show z.length + a.length ≤ 20000 by omega) (by decide), q H fun _ _ e => e⟩
abbrev sDSwap : Stmt := cb 17 3
theorem scDSwap : FnScope ["self", "line", "becomes", "letter"] ["self", "line"] (defScope sDSwap) := ⟨rfl, rfl, rfl, by decide +kernel, rfl, by decide +kernel, by decide +kernel⟩
theorem ok_DSwap {f : Addr} {fd : FuncData} (F : Fun K "done" "Swap.done" sDSwap f fd) (md : mg "dict" = none) (mz : mg "zip" = none) (T : C2 K (C 2) "_letters" "_others") : FnOk P w K mg base CX0 1 f fd ["self", "line"] (spDone C 2) := by
  refine F.ok scDSwap (fun vs H Q E h => ?_) (fun cdv A outer s H vs Q E hr h => ?_)
  · obtain ⟨c, x, z, rfl, _⟩ := h
    rfl
  · obtain ⟨c, x, z, rfl, hc, ei, ok, hz, q⟩ := h
    have hu := hu_of hr
    refine ⟨_, pss_cons (by exact (ps_set (i := 2) scDSwap.nd rfl (.inr rfl) (pe_dictZip rfl rfl md rfl mz (pe_fld (pv 0) rfl) (pe_fld (pv 0) rfl)))) (
      pss_one (by exact (ps_ret (pe_join pe_str (pe_lc (own := [("letter", 3)]) (g := gName 3) (tt := tYes) (te := tDGet2 (tVar 2) (tVar 3) (tVar 3)) rfl scDSwap.nd (pi_str (pv 1))
        (blkOk_by (N := ["self", "line", "becomes", "letter"]) (sc := defScope sDSwap) (by decide +kernel))
        (fun _ _ _ _ _ => by exact (pg_name (i := 3) scDSwap.nd rfl (Or.inl rfl)))
        (fun _ _ _ _ _ => by exact pts_nil)
        (fun _ _ _ _ _ => by exact (pe_dget2 hu (pv 2) (pv 3) (pv 3) ⟨rfl, rfl, rfl, rfl⟩))))))), ?_⟩
    obtain ⟨i, a, b⟩ := c
    obtain rfl : i = 2 := ei
    obtain ⟨_, p, dx, rfl, hc⟩ := hc
    rcases hc with ⟨l2, _⟩ | ⟨_, hp⟩
    · exact absurd (show 2 < 2 from l2) (by decide)
    have la : a.length < 100 := ok.la
    obtain ⟨lt, lb, eqL⟩ := ok.sw rfl
    have lt : letB a = true := lt
    have eqL : b.length = a.length := eqL
    have nd : (cod a).Nodup := by
      unfold letB at lt
      rw [Bool.and_eq_true] at lt
      exact of_decide_eq_true lt.2
    have small : min a.cps.size b.cps.size < 1000 := by
      have e : a.cps.size = a.length := rfl
      omega
    refine ⟨_, rfl, p, C 2, dx, _, .str a, rfl, hp, T.cls, T.one, rfl, _, rfl, p, C 2, dx, _, .str b, rfl, hp, T.cls, T.oth, rfl, a, b, rfl, small, fun D nD => ?_⟩
    have hD : (upd H D (.dK (mergeK [] (zipKV a b)))) D = some (.dK (mergeK [] (zipKV a b))) := upd_same
    have sD := same_upd (o := .dK (mergeK [] (zipKV a b))) nD
    refine ⟨⟨_, rfl⟩, _, rfl, z, rfl, fun L nL => ?_⟩
    have nDL : D ≠ L := ne_of_none hD nL
    refine lc_it walk_str (fun i G => G L = some (.lst (cs (((cod z).take i).map (swc (cod a) (cod b))))) ∧ Same (upd H D (.dK (mergeK [] (zipKV a b)))) G) ⟨upd_same, same_upd nL⟩ (fun _ _ _ _ => True.intro) (fun i x G G' hi p y => ?_) (fun G p => ?_)
    · obtain ⟨pL, pS⟩ := p
      obtain ⟨rfl, c, hc, rfl⟩ := y
      have hc2 : (cod z)[i]? = some c := by
        show z.cps.toList[i]? = some c
        rw [Array.getElem?_toList]
        exact hc
      refine ⟨rfl, ?_⟩
      dsimp only [tYes]
      rw [if_pos rfl]
      refine ⟨_, rfl, D, rfl, .inl ⟨_, .inl (pS _ _ hD)⟩, _, rfl, _, rfl, _, DGet.k (k := Sum.inr (sg c)) (pS _ _ hD), _, pL, ?_, ?_, ?_⟩
      · unfold cs
        rw [List.length_map, List.length_map, List.length_take]
        exact Nat.lt_of_le_of_lt (Nat.min_le_right _ _) (by rw [len_cod]; exact Nat.lt_of_le_of_lt hz (by decide))
      · have e := valV_zip (cod a) (cod b) [] c nd (by rw [len_cod, len_cod]; exact eqL.symm)
        have e : valV (mergeK [] (zipKV a b)) (Sum.inr (sg c)) = if c ∈ cod a then some (V.str (sg ((cod b).getD ((cod a).idxOf c) c))) else none := e
        rw [e, List.take_succ, hc2]
        have e2 : (if c ∈ cod a then some (V.str (sg ((cod b).getD ((cod a).idxOf c) c))) else none).getD (V.str (sg c)) = V.str (sg (swc (cod a) (cod b) c)) := by
          unfold swc
          by_cases m : c ∈ cod a
          · rw [if_pos m, if_pos m]
            rfl
          · rw [if_neg m, if_neg m]
            rfl
        have e3 : (if c ∈ cod a then some (V.str (sg ((cod b).getD ((cod a).idxOf c) c))) else none).getD (V.str ⟨#[c]⟩) = V.str (sg (swc (cod a) (cod b) c)) := e2
        rw [e3]
        unfold cs
        rw [List.map_append, List.map_append]
        exact upd_same
      · intro b' o e
        rw [upd_ne]
        · exact pS b' o e
        · exact ne_of_none e nL
    · obtain ⟨pL, pS⟩ := p
      have e : ((cod z).take z.cps.size) = cod z := List.take_of_length_le (by rw [len_cod]; exact Nat.le_refl _)
      rw [e] at pL
      refine ⟨_, L, ((cod z).map (swc (cod a) (cod b))).map sg, rfl, rfl, .inl (by rw [← cs_strs]; exact SqL.of pL), (by rw [sum_sg, List.length_map, List.length_map, len_cod]; show z.length + z.length * 0 ≤ 16777216; omega), ?_⟩
      exact q G (sD.trans pS)
end
end LA
end
section
set_option Elab.async false
set_option linter.all false
set_option maxRecDepth 100000
set_option maxHeartbeats 4100000
namespace LA
open PySem PySem.Spec PyProof.Rows L2 XS XT XK XZ XW
/-- a reading of raw values as one of what they stand for -/
def tPE (t : TEW) : TE := fun σ H Q => ∀ s, t s σ H fun v _ _ H' => Q v H'
theorem pe_raw {X : Cx} {e : Expr} {t : TEW} (h : PEW X e t) : PE X e (tPE t) := h.pe fun s _ _ _ q => q s
theorem passN {X : Cx} : Passes (L2.CX X.prog X.w) X (fun _ _ _ => False) := fun _ _ _ _ _ _ _ ⟨_, _, _, _, _, _, _, _, _, _, _, _, z⟩ => z.elim
theorem made_same {H H' : Hp} {x dx D : Addr} (nx : H x = none) (nd : H dx = none) (b : But x (upd (upd H dx (.own x)) x (.ins D dx [])) H') : Same H H' := fun a o e => by
  have h1 := ne_of_none e nx
  have h2 := ne_of_none e nd
  exact b a o (by rw [upd_ne h1, upd_ne h2]; exact e) h1
theorem made_same2 {H H' : Hp} {x dx D : Addr} (nx : H x = none) (nd : H dx = none) (b : But2 x dx (upd (upd H dx (.own x)) x (.ins D dx [])) H') : Same H H' := fun a o e => by
  have h1 := ne_of_none e nx
  have h2 := ne_of_none e nd
  exact b a o (by rw [upd_ne h1, upd_ne h2]; exact e) h1 h2
section
variable {P : Program} {w : World} {K : PySem.W.Frag} {mg : Str → Option Value} {base : Heap}
structure MkAt (P : Program) (w : World) (K : PySem.W.Frag) (mg : Str → Option Value) (base : Heap) (k : Nat) (D : Addr) (ps : List Str) (sp : Sp) (f : Addr) (fd : FuncData) : Prop where
  made : Mk K D f
  ok : FnOk P w K mg base (L2.CX P w) k f fd ps sp
  b : Binds K fd ps []
structure MkAtW (P : Program) (w : World) (K : PySem.W.Frag) (mg : Str → Option Value) (base : Heap) (k : Nat) (D : Addr) (ps : List Str) (sp : SpW) (f : Addr) (fd : FuncData) : Prop where
  made : Mk K D f
  ok : FnRaw P w K mg base (L2.CX P w) k f fd ps sp
  b : Binds K fd ps []
structure NamT (mg : Str → Option Value) (C : Nat → Addr) : Prop where
  n0 : mg "First" = some (.ref (C 0))
  n1 : mg "Every" = some (.ref (C 1))
  n2 : mg "Swap" = some (.ref (C 2))
  n3 : mg "Front" = some (.ref (C 3))
  n4 : mg "Behind" = some (.ref (C 4))
/-- how the five classes of changes are made -/
structure MakC (P : Program) (w : World) (K : PySem.W.Frag) (mg : Str → Option Value) (base : Heap) (CC : Nat → Addr) (D : Addr) (fi : Nat → Addr) (fdi : Nat → FuncData) : Prop where
  m0 : MkAtW P w K mg base 6 (CC 0) ["self", "old", "new"] (spInitW (CC 0) D) (fi 0) (fdi 0)
  m1 : MkAtW P w K mg base 6 (CC 1) ["self", "old", "new"] (spInitW (CC 1) D) (fi 1) (fdi 1)
  m2 : MkAt P w K mg base 6 (CC 2) ["self", "letters", "others"] (spInit2 (CC 2) "_letters" "_others" D (okv letB) othB "letters" "others") (fi 2) (fdi 2)
  m3 : MkAt P w K mg base 6 (CC 3) ["self", "word"] (spInitX (CC 3) "_word" D shortB "word") (fi 3) (fdi 3)
  m4 : MkAt P w K mg base 6 (CC 4) ["self", "word"] (spInitX (CC 4) "_word" D shortB "word") (fi 4) (fdi 4)
/-- made_deed -/
def spMD (CC : Nat → Addr) : Sp := fun vs H Q _ => ∃ (ch : Ch) (v : V), vs = [v] ∧ DA H ch v ∧ ChOk ch ∧ ∀ (u : V) (H' : Hp), CA CC H' ch u → Same H H' → Q u H'
theorem scMDeed : FnScope ["_law_deed_here", "_law_sort"] ["_law_deed_here"] (defScope sMDeed) := ⟨rfl, rfl, rfl, by decide +kernel, rfl, by decide +kernel, by decide +kernel⟩
theorem DA.sort {K : PySem.W.Frag} {H : Hp} {ch : Ch} {v : V} (h : DA H ch v) : ∃ p xs, v = .ref p ∧ SqT K H p (V.str (srt ch.i) :: .str ch.a :: xs) ∧ (ch.i < 3 → xs = [.str ch.b]) := by
  obtain ⟨l, b, p, e, h⟩ := h
  rcases h with ⟨l2, w, t, u, hp, q⟩ | ⟨l2, hp⟩
  · exact ⟨p, [.str ch.b], e, .inl (.inr ⟨_, hp⟩), fun _ => rfl⟩
  · exact ⟨p, _, e, SqT.of hp, fun l3 => by rw [if_pos l3]⟩
theorem DA.known {H : Hp} {ch : Ch} {v : V} (h : DA H ch v) (l : ch.i < 2) : ∃ p, v = .ref p ∧ Known H p ch := by
  obtain ⟨l5, b, p, e, h⟩ := h
  rcases h with ⟨l2, k⟩ | ⟨l2, hp⟩
  · exact ⟨p, e, k⟩
  · omega
theorem ok_MD {C fi : Nat → Addr} {fdi : Nat → FuncData} {f D : Addr} {fd : FuncData} (F : Fun K "_law_made_deed" "_law_made_deed" sMDeed f fd) (N : NamT mg C) (M : MakC P w K mg base C D fi fdi) : FnOk P w K mg base CX0 8 f fd ["_law_deed_here"] (spMD C) := by
  refine F.ok scMDeed (fun vs H Q E h => ?_) (fun cdv A outer s H vs Q E hr h => ?_)
  · obtain ⟨ch, v, rfl, _⟩ := h
    rfl
  · obtain ⟨ch, v, rfl, hg, ok, q⟩ := h
    refine ⟨_, pss_cons (by exact (ps_set (i := 1) scMDeed.nd rfl (.inl rfl) (pe_ix ix_tup (pv 0) pe_int (fun _ _ => rfl))))
      (pss_cons (by exact (ps_if (pt_cmpR op_in_seq (pv 1) (pe_tup (pa_cons pe_str (pa_cons pe_str pa_nil))) (by rfl)) (pss_one (by exact (ps_ret (pe_ifExp (pt_cmpR op_eq (pv 1) pe_str (nomark _)) (pe_make M.m3.made M.m3.ok hr rfl N.n3 M.m3.b .nil passN (pa_cons (pe_ix ix_tup (pv 0) pe_int (fun _ _ => rfl)) pa_nil)) (pe_make M.m4.made M.m4.ok hr rfl N.n4 M.m4.b .nil passN (pa_cons (pe_ix ix_tup (pv 0) pe_int (fun _ _ => rfl)) pa_nil)))))) pss_nil))
      (pss_cons (by exact (ps_if (pt_cmpR op_eq (pv 1) pe_str (nomark _)) (pss_one (by exact (ps_ret (pe_make M.m2.made M.m2.ok hr rfl N.n2 M.m2.b .nil passN (pa_cons (pe_ix ix_tup (pv 0) pe_int (fun _ _ => rfl)) (pa_cons (pe_ix ix_tup (pv 0) pe_int (fun _ _ => rfl)) pa_nil)))))) pss_nil))
      (pss_one (by exact (ps_ret (pe_ifExp (pt_cmpR op_eq (pv 1) pe_str (nomark _))
        (pe_raw (pew_make M.m0.made M.m0.ok hr rfl N.n0 M.m0.b passN (paw_cons (pew_ixT (j := 1) (PEW.of (pv 0)) rfl (by decide)) (paw_cons (pew_ixT (j := 2) (PEW.of (pv 0)) rfl (by decide)) paw_nil))))
        (pe_raw (pew_make M.m1.made M.m1.ok hr rfl N.n1 M.m1.b passN (paw_cons (pew_ixT (j := 1) (PEW.of (pv 0)) rfl (by decide)) (paw_cons (pew_ixT (j := 2) (PEW.of (pv 0)) rfl (by decide)) paw_nil)))))))))), ?_⟩
    obtain ⟨p, xs, rfl, hq, hb⟩ := hg.sort (K := K)
    have i5 := hg.1
    have bb := hg.2.1
    obtain ⟨i, a, b⟩ := ch
    obtain ⟨la, lb, o1, o2, o3⟩ := ok
    have i5 : i < 5 := i5
    have aA : a.length < 4000 := Nat.lt_trans la (by decide)
    have aB : b.length < 4000 := Nat.lt_trans lb (by decide)
    refine ⟨_, rfl, p, _, _, _, rfl, rfl, hq, atI_nat (j := 0) rfl, ?_⟩
    refine ⟨_, rfl, (by show 2 ≤ sizeLine; decide), fun T nT => ⟨T, _, rfl, .inr (SqT.of upd_same), rfl, rfl, _, rfl, ?_⟩⟩
    have sT := same_upd (o := .tup [.str "front", .str "behind"]) nT
    have gT := hg.same sT
    obtain ⟨p', xs', e', hpT, hb'⟩ := gT.sort (K := K)
    cases e'
    rcases (by omega : i = 0 ∨ i = 1 ∨ i = 2 ∨ i = 3 ∨ i = 4) with rfl | rfl | rfl | rfl | rfl
    · rw [show (if false = true then !inV (V.str (srt 0)) [V.str "front", V.str "behind"] else inV (V.str (srt 0)) [V.str "front", V.str "behind"]) = false by decide +kernel]
      refine iteF ⟨_, rfl, rfl, _, rfl, ?_⟩
      rw [show decide (V.str (srt 0) = V.str "swap") = false by decide +kernel]
      refine iteF ⟨_, rfl, rfl, _, rfl, ?_⟩
      rw [show decide (V.str (srt 0) = V.str "first") = true by decide +kernel]
      obtain ⟨p', e', w0, t, u, hk, tk⟩ := gT.known (show 0 < 2 by decide)
      cases e'
      refine iteT fun s => ⟨_, rfl, fun _ s1 _ k1 => ⟨_, _, _, _, _, rfl, hk, rfl, rfl, fun s2 k2 => ⟨_, rfl, fun _ s3 _ k3 => ⟨_, _, _, _, _, rfl, hk, rfl, rfl, fun s4 k4 => fun x dx s5 nx nd ne k5 => ⟨x, dx, a, b, t, u, rfl, rfl, upd_same, .str _ aA, .str _ aB, fun _ _ s6 H2 k6 hx b2 => ⟨rfl, fun s7 k7 => ?_⟩, fun no => absurd (o1 (show (0 : Nat) ≠ 2 by decide)) (by rw [show shortB a = false from no]; decide), fun _ no => absurd (o2 (show (0 : Nat) < 2 by decide)) (by rw [show newB b = false from no]; decide)⟩⟩⟩⟩⟩
      exact q _ _ ⟨i5, x, dx, rfl, .inl ⟨by show 0 < 2; decide, t, u, hx, tk⟩⟩ (sT.trans (made_same2 nx nd b2))
    · rw [show (if false = true then !inV (V.str (srt 1)) [V.str "front", V.str "behind"] else inV (V.str (srt 1)) [V.str "front", V.str "behind"]) = false by decide +kernel]
      refine iteF ⟨_, rfl, rfl, _, rfl, ?_⟩
      rw [show decide (V.str (srt 1) = V.str "swap") = false by decide +kernel]
      refine iteF ⟨_, rfl, rfl, _, rfl, ?_⟩
      rw [show decide (V.str (srt 1) = V.str "first") = false by decide +kernel]
      obtain ⟨p', e', w0, t, u, hk, tk⟩ := gT.known (show 1 < 2 by decide)
      cases e'
      refine iteF fun s => ⟨_, rfl, fun _ s1 _ k1 => ⟨_, _, _, _, _, rfl, hk, rfl, rfl, fun s2 k2 => ⟨_, rfl, fun _ s3 _ k3 => ⟨_, _, _, _, _, rfl, hk, rfl, rfl, fun s4 k4 => fun x dx s5 nx nd ne k5 => ⟨x, dx, a, b, t, u, rfl, rfl, upd_same, .str _ aA, .str _ aB, fun _ _ s6 H2 k6 hx b2 => ⟨rfl, fun s7 k7 => ?_⟩, fun no => absurd (o1 (show (1 : Nat) ≠ 2 by decide)) (by rw [show shortB a = false from no]; decide), fun _ no => absurd (o2 (show (1 : Nat) < 2 by decide)) (by rw [show newB b = false from no]; decide)⟩⟩⟩⟩⟩
      exact q _ _ ⟨i5, x, dx, rfl, .inl ⟨by show 1 < 2; decide, t, u, hx, tk⟩⟩ (sT.trans (made_same2 nx nd b2))
    · rw [show (if false = true then !inV (V.str (srt 2)) [V.str "front", V.str "behind"] else inV (V.str (srt 2)) [V.str "front", V.str "behind"]) = false by decide +kernel]
      refine iteF ⟨_, rfl, rfl, _, rfl, ?_⟩
      rw [show decide (V.str (srt 2) = V.str "swap") = true by decide +kernel]
      obtain ⟨s1, s2, s3⟩ := o3 rfl
      have s3 : b.length = a.length := s3
      have s4 : othB (.str a) (.str b) = true := by
        show (lineB b && decide (b.length = a.length)) = true
        rw [show lineB b = true from s2, decide_eq_true s3]
        rfl
      have eb : xs' = [.str b] := hb' (by show 2 < 3; decide)
      subst eb
      refine iteT ⟨_, rfl, p, _, _, _, rfl, rfl, hpT, atI_nat (j := 1) rfl, _, rfl, p, _, _, _, rfl, rfl, hpT, atI_nat (j := 2) rfl, fun x dx nx nd ne => ⟨x, dx, _, _, rfl, upd_same, .str _ aA, .str _ aB, fun _ _ H2 hx b2 => ⟨rfl, ?_⟩, fun no => absurd s1 (by rw [show letB a = false from no]; decide), fun _ no => absurd s4 (by rw [no]; decide)⟩⟩
      exact q _ _ ⟨i5, x, dx, rfl, .inr ⟨by show 2 ≤ 2; decide, hx⟩⟩ (sT.trans (made_same nx nd b2))
    · rw [show (if false = true then !inV (V.str (srt 3)) [V.str "front", V.str "behind"] else inV (V.str (srt 3)) [V.str "front", V.str "behind"]) = true by decide +kernel]
      refine iteT ⟨_, rfl, rfl, _, rfl, ?_⟩
      rw [show decide (V.str (srt 3) = V.str "front") = true by decide +kernel]
      refine iteT ⟨_, rfl, p, _, _, _, rfl, rfl, hpT, atI_nat (j := 1) rfl, fun x dx nx nd ne => ⟨x, dx, _, rfl, upd_same, .str _ aA, fun _ H2 hx b2 => ⟨rfl, ?_⟩, fun no => absurd (o1 (show (3 : Nat) ≠ 2 by decide)) (by rw [show shortB a = false from no]; decide)⟩⟩
      exact q _ _ ⟨i5, x, dx, rfl, .inr ⟨by show 2 ≤ 3; decide, hx⟩⟩ (sT.trans (made_same nx nd b2))
    · rw [show (if false = true then !inV (V.str (srt 4)) [V.str "front", V.str "behind"] else inV (V.str (srt 4)) [V.str "front", V.str "behind"]) = true by decide +kernel]
      refine iteT ⟨_, rfl, rfl, _, rfl, ?_⟩
      rw [show decide (V.str (srt 4) = V.str "front") = false by decide +kernel]
      refine iteF ⟨_, rfl, p, _, _, _, rfl, rfl, hpT, atI_nat (j := 1) rfl, fun x dx nx nd ne => ⟨x, dx, _, rfl, upd_same, .str _ aA, fun _ H2 hx b2 => ⟨rfl, ?_⟩, fun no => absurd (o1 (show (4 : Nat) ≠ 2 by decide)) (by rw [show shortB a = false from no]; decide)⟩⟩
      exact q _ _ ⟨i5, x, dx, rfl, .inr ⟨by show 2 ≤ 4; decide, hx⟩⟩ (sT.trans (made_same nx nd b2))
end
end LA
end
section
set_option Elab.async false
set_option linter.all false
set_option maxRecDepth 100000
set_option maxHeartbeats 4100000
/-! raw walks of statements: the frame told, an if, a join of a list whose items are not known, text * number -/
namespace XW
open PySem PySem.Spec PyProof.Rows L2 XD XK
section
variable {X : Cx} {a b c e o : Expr} {ta tb te to : TEW} {pos apos : Pos} {st : List Stmt}
/-- what lies in the frame is told -/
def tFrame (X : Cx) (t : TSW) : TSW := fun D s σ H => ∀ m, s.heap.Ns X.env.locals m → t D s σ H
theorem pssw_frame {t : TSW} (h : PSsW X st t) : PSsW X st (tFrame X t) := ⟨fun pins s σ H D I q => by
  obtain ⟨m, hn, _⟩ := id I.loc
  exact h.run pins s σ H D I (q m hn)⟩
/-- the raw values forgotten -/
def tForget (t : TSW) : TS := fun D σ H => ∀ s, t { nx := fun _ σ' H' => D.nx σ' H', rt := fun v _ _ H' => D.rt v H' } s σ H
theorem pss_raw {t : TSW} (h : PSsW X st t) : PSs X st (tForget t) := ⟨fun pins s σ H D I q => wpAny_mono (h.run pins s σ H _ I (q s)) (fun f s' z => by
  cases f with
  | next =>
    obtain ⟨σ', H', I', q⟩ := z
    exact ⟨σ', H', I', q⟩
  | ret u =>
    obtain ⟨v, σ', H', I', r, q⟩ := z
    exact ⟨v, σ', H', I', r, q⟩
  | brk => exact False.elim z
  | cont => exact False.elim z) fun _ _ z => z⟩
/-- number == number -/
def tEqT (ta tb : TEW) : Shared → L2.St → Hp → (Bool → Shared → Hp → Prop) → Prop := fun s σ H Q => ta s σ H fun x _ s1 H1 => tb s1 σ H1 fun y _ s2 H2 => ∃ i j : Int, x = .int i ∧ y = .int j ∧ Q (i == j) s2 H2
theorem ptw_eq (ha : PEW X a ta) (hb : PEW X b tb) (hm : behindInMarks .Eq b = false) : PTW X (.Compare a [.Eq] [b] pos) (tEqT ta tb) := by
  refine ⟨fun pins s σ H Q I h => ?_⟩
  refine wpAny_isTrue_Compare1 (thn (ha.run pins s σ H _ I h) fun v s1 ⟨x, H1, I1, r1, q1⟩ => thn (hb.run pins s1 σ H1 _ I1 q1) fun u s2 ⟨y, H2, I2, r2, i, j, ex, ey, q⟩ => ?_) hm
  subst ex
  subst ey
  obtain ⟨t, rfl⟩ := r1
  obtain ⟨t', rfl⟩ := r2
  show wpAny _ _ (richCompare .Eq _ _) _ _ _
  exact wpAny_eq_int (wpAny_truthy_bool ⟨H2, I2, q⟩)
def tIfW (tc : Shared → L2.St → Hp → (Bool → Shared → Hp → Prop) → Prop) (t u : TSW) : TSW := fun D s σ H => tc s σ H fun b s1 H1 => if b = true then t D s1 σ H1 else u D s1 σ H1
theorem psw_if {st2 : List Stmt} {tc} {t u : TSW} (hc : PTW X c tc) (ha : PSsW X st t) (hb : PSsW X st2 u) : PSW X (.If c st st2 pos) (tIfW tc t u) := by
  refine ⟨fun pins s σ H D I h => ?_⟩
  refine wpAny_If (thn (hc.run pins s σ H _ I h) fun d s1 ⟨H1, I1, q1⟩ => ?_)
  cases d with
  | true => exact ha.run pins s1 σ H1 D I1 q1
  | false => exact hb.run pins s1 σ H1 D I1 q1
/-- a local name: the state stays -/
def tLocW (i : Nat) : TEW := fun s σ H Q => ∃ v, σ[i]? = some (some v) ∧ ∀ u, RelV v u → Q v u s H
theorem pew_loc {i : Nat} {x : Str} (hN : X.N[i]? = some x) (hl : X.env.scope.names.lookup x = some .local) (hd : (x == ("__debug__" : Str)) = false := by decide) : PEW X (.Name x pos) (tLocW i) := by
  refine ⟨fun pins s σ H Q I h => ?_⟩
  obtain ⟨v, hσ, q⟩ := h
  obtain ⟨m', hn, hk⟩ := id I.loc
  obtain ⟨u', r, l⟩ := hk i x v hN hσ (.inl hl)
  rcases l with ⟨_, hm'⟩ | ⟨hk', _⟩
  · exact wpAny_Name (wpAny_loadName_local I.ok.kind hl hn hm' ⟨v, H, I, r, q _ r⟩) hd
  · rcases hk' with hk' | hk'
    · have hk' : X.env.scope.names.lookup x = some .cell := hk'
      rw [hl] at hk'; cases hk'
    · have hk' : X.env.scope.names.lookup x = some .free := hk'
      rw [hl] at hk'; cases hk'
/-- name = e, the name a local: the frame holds it then -/
def tSetN (X : Cx) (i : Nat) (x : Str) (te : TEW) : TSW := fun D s σ H => te s σ H fun v u s1 H1 => ∀ s2 m, s1.toks ≤ s2.toks → s2.heap.Ns X.env.locals m → m x = some u → D.nx s2 (σ.set i (some v)) H1
theorem psw_setN {i : Nat} {x : Str} {pos' : Pos} (hN : X.N.Nodup) (hi : X.N[i]? = some x) (hl : X.env.scope.names.lookup x = some .local) (hk : X.env.scope.kind = .function) (he : PEW X e te) (hs : swapsWith e (some (.Name x pos')) pos.line X.env = pure false := by rfl) :
    PSW X (.Assign [.Name x pos'] e pos) (tSetN X i x te) := by
  refine ⟨fun pins s σ H D I h => ?_⟩
  refine wpAny_Assign_Name (thn (he.run pins s σ H _ I h) fun u s1 ⟨v, H1, I1, r1, q1⟩ => ?_) hs
  obtain ⟨m, hn, _⟩ := id I1.loc
  have hcls : (X.env.scope.kind == .class || (X.env.scope.kind == .module && X.env.locals != X.env.globals)) = false := by rw [hk]; rfl
  have h1 : wpAny (model X.prog X.w) X.A (storeName X.env x u) (fun _ s2 => Inv X pins (σ.set i (some v)) H1 s2) X.xe s1 := store_ok I1 hN hi (.inl hl) r1 (fun s2 I2 => I2) (.inr hl)
  have h2 : wpAny (model X.prog X.w) X.A (storeName X.env x u) (fun _ s2 => s1.toks ≤ s2.toks ∧ s2.heap.Ns X.env.locals (fun y => if y = x then some u else m y)) X.xe s1 :=
    wpAny_storeName_local hl hn (fun h' hn' _ => ⟨Nat.le_succ _, hn'⟩) hcls
  exact wpAny_mono (wpAny_and h1 h2) (fun _ s2 q => ⟨σ.set i (some v), H1, q.1, q1 s2 _ q.2.1 q.2.2 (if_pos rfl)⟩) fun _ _ q => q.1
/-- a statement whose ways end alike -/
def tViaW (t : TSW) : TSW := fun D s σ H => ∃ Z : Shared → L2.St → Hp → Prop, (∀ s' σ' H', Z s' σ' H' → D.nx s' σ' H') ∧ t { nx := Z, rt := D.rt } s σ H
theorem psw_via {st : Stmt} {t : TSW} (h : PSW X st t) : PSW X st (tViaW t) := ⟨fun pins s σ H D I ⟨Z, hz, q⟩ => wpAny_mono (h.run pins s σ H _ I q) (fun f s' z => by
  cases f with
  | next =>
    obtain ⟨σ', H', I', q⟩ := z
    exact ⟨σ', H', I', hz _ _ _ q⟩
  | ret u =>
    obtain ⟨v, σ', H', I', r, q⟩ := z
    exact ⟨v, σ', H', I', r, q⟩
  | brk => exact False.elim z
  | cont => exact False.elim z) fun _ _ z => z⟩
/-- text * number: a new text -/
def tMulW (X : Cx) (ta tb : TEW) : TEW := fun s σ H Q => ta s σ H fun x _ s1 H1 => tb s1 σ H1 fun y _ s2 H2 => ∃ (z : Str) (i : Int), x = .str z ∧ y = .int i ∧ z.length ≤ 16 ∧ 0 < z.length ∧ 2 ≤ i ∧ i ≤ 1000 ∧
  ∀ s3, Kp X s2 s3 → s3.toks = s2.toks + 1 → Q (.str (Txt.mul z i)) (.str (Txt.mul z i) s2.toks) s3 H2
theorem pew_mulS (ha : PEW X a ta) (hb : PEW X b tb) : PEW X (.BinOp a .Mult b pos) (tMulW X ta tb) := by
  refine ⟨fun pins s σ H Q I h => ?_⟩
  refine wpAny_BinOp (thn (ha.run pins s σ H _ I h) fun v s1 ⟨x, H1, I1, r1, q1⟩ => thn (hb.run pins s1 σ H1 _ I1 q1) fun u s2 ⟨y, H2, I2, r2, z, i, ex, ey, hz, z0, h2, h1, q⟩ => ?_)
  subst ex
  subst ey
  obtain ⟨t, rfl⟩ := r1
  obtain ⟨t', rfl⟩ := r2
  have hok : MulOk z i := PyProof.Rows.mulOk_of 16 1048576 hz (by omega) (by omega) (by decide) (by decide)
  have n1 : ¬ i < 1 := by omega
  have n2 : (i == 1 || z.length == 0) = false := by
    rw [Bool.or_eq_false_iff, beq_eq_false_iff_ne, beq_eq_false_iff_ne]
    exact ⟨by omega, by omega⟩
  refine PySem.P.mul_str hok.1 hok.2.1 hok.2.2 ?_
  rw [if_neg n1, if_neg (by rw [n2]; decide)]
  refine ⟨fits_reps (hok.2.2 n1 n2), ?_⟩
  have q' := q { s2 with toks := s2.toks + 1 } ⟨Nat.le_succ _, fun _ h => h⟩ rfl
  have em : Txt.mul z i = ⟨List.foldl (fun x1 x2 => x1 ++ x2) #[] (List.replicate i.toNat z.cps)⟩ := by
    have e : Txt.mul z i = if i < 1 then Str.empty else if (i == 1 || z.length == 0) = true then z else ⟨List.foldl (fun x1 x2 => x1 ++ x2) #[] (List.replicate i.toNat z.cps)⟩ := rfl
    rw [e, if_neg n1, if_neg (by rw [n2]; decide)]
  rw [em] at q'
  exact ⟨.str _, H2, I2.tok _, ⟨_, rfl⟩, q'⟩
/-- sep.join(list), the list's items not known, not one alone: a new text -/
def tJoinB (to : TEW) (te : TE) : TEW := fun s σ H Q => to s σ H fun x _ s1 H1 => ∃ c : Str, x = .str c ∧ te σ H1 fun y H2 => ∃ (D : Addr) (ys : List Str), y = .ref D ∧ SqL X.K H2 D (ys.map V.str) ∧ ys.length ≠ 1 ∧ (ys.map (·.length)).sum + ys.length * c.length ≤ 16777216 ∧
  ∀ t s3, s1.toks ≤ t → t < s3.toks → Q (.str (Txt.join c ys)) (.str (Txt.join c ys) t) s3 H2
theorem pew_joinB {te : TE} (ho : PEW X o to) (he : PE X e te) (hst : starEach [e] X.env = [(false, eval e X.env)] := by rfl) (hbase : attributeBase o "join" X.env (eval o X.env) = eval o X.env := by rfl) (hline : (apos.endLine == pos.line) = true := by rfl) :
    PEW X (.Call (.Attribute o "join" apos) [e] [] pos) (tJoinB (X := X) to te) := by
  refine ⟨fun pins s σ H Q I h => ?_⟩
  refine PySem.Call_method1 hbase hst hline (thn (ho.run pins s σ H _ I h) fun ov s1 ⟨x, H1, I1, r1, c, ex, q1⟩ => ?_)
  subst ex
  obtain ⟨ta, rfl⟩ := r1
  refine ⟨"str", _, PySem.F.plainAttrs_str, PySem.F.slot_str_join, PySem.F.type_str_join, typeIs_str _ _ _, (fun _ e => nomatch e), Calls.callWith_builtin rfl (Calls.evalArgs_plain (Calls.spliced_cons ?_))⟩
  refine wpAny_mono (PySem.wpAny_toks (he.run pins s1 σ H1 _ I1 q1)) (fun u s2 ⟨kt, y, H2, I2, r2, D, ys, ey, hD, n1, hz, q2⟩ => Calls.spliced_nil ?_) fun _ _ z => z.2
  subst ey
  cases r2
  obtain ⟨its, rv, hs, hlen⟩ := I2.list hD
  obtain ⟨l, rfl, rfl⟩ := vals_strs rv
  have ok := joinOk_of hz
  have fit := joinFit_length (sep := c) (texts := l.map (·.1))
  unfold JoinOk at ok
  rw [Bool.not_eq_true'] at ok
  refine call_meets F.slot_str_join (typeIs_str _ _ _) F.entry_str_join (F.args_str_join_2 _ _) (meets_str_join_list c ta D l ok) ⟨(by
    obtain ⟨o, n, ho, hc, hdn, hd⟩ := hs
    exact ⟨o, ho, hc, n, hd⟩), ?_⟩
  match l, fit, ok, n1, q2 with
  | [], fit, ok, n1, q2 => exact ⟨fit ok, .str _, H2, I2.tok _, ⟨_, rfl⟩, q2 _ _ kt (Nat.lt_succ_self _)⟩
  | [p], fit, ok, n1, q2 => exact absurd rfl n1
  | p :: q :: r, fit, ok, n1, q2 => exact ⟨fit ok, .str _, H2, I2.tok _, ⟨_, rfl⟩, q2 _ _ kt (Nat.lt_succ_self _)⟩
end
end XW
end
section
set_option Elab.async false
set_option linter.all false
set_option maxRecDepth 100000
set_option maxHeartbeats 4100000
namespace LA
open PySem L2 XS XT XK XW
section
variable {P : Program} {w : World} {K : PySem.W.Frag} {mg : Str → Option Value} {base : Heap}
/-- few: the token of what it gives is new -/
def spFewW : SpW := fun vs _ s H Q _ => ∃ (d c : Addr) (n : Int) (ns : List Int), vs = [.ref d] ∧ PenAt H d c n ns ∧ n + 4 < 1000000 ∧
  ∀ (z : Str) (t : Tok) (s' : Shared) (H' : Hp), Sgn z → 0 < t → t < s'.toks → s.toks ≤ s'.toks → PenAt H' d c (n + 4) ns → But d H H' → Q (.str z) (.str z t) s' H'
theorem ok_fewW {f fS fP fQ : Addr} {fd fdS fdP fdQ : FuncData} (F : Fun K "_law_few" "_law_few" sFew f fd) (T : Txt mg) (mR : mg "range" = none) (M : PickAt P w K mg base fP fdP) (W : CallW P w K mg base 2 "_law_pick" ["_law_pen_here", "_law_options"] spPickW fQ fdQ) (FS : Fun K "_law_signs" "_law_signs" sSigns fS fdS) (bS : ∀ s, BindsTo s fdS ⟨[], []⟩ []) (mS : mg "_law_signs" = some (.ref fS)) :
    FnRaw P w K mg base CX0 3 f fd ["_law_pen_here"] spFewW := by
  refine fun_raw F scF (fun vs us s H Q E h => ?_) (fun cdv A outer s s1 H us vs Q E hr bg rv h => ?_)
  · obtain ⟨d, c, n, ns, rfl, _⟩ := h
    rfl
  · obtain ⟨d, c, n, ns, rfl, pen, hn, k⟩ := h
    have hr2 : Room 2 _ := hr.mono (by decide)
    have hr1 : Room 1 _ := hr.mono (by decide)
    have kb := bg.tk
    refine ⟨_, pssw_cons (by exact (PSW.of (ps_set (i := 1) scF.nd rfl (Or.inr rfl) (pe_lst (pa_cons (pe_call M.ok hr2 rfl M.m M.k M.b .nil pass0 (pa_cons (pv 0) (pa_cons (XS.pe_litRepl FS scG rfl bS rfl hr1 mS (by decide +kernel) (by decide +kernel)) pa_nil))) (pa_cons (pe_call M.ok hr2 rfl M.m M.k M.b .nil pass0 (pa_cons (pv 0) (pa_cons pe_str pa_nil))) (pa_cons (pe_call M.ok hr2 rfl M.m M.k M.b .nil pass0 (pa_cons (pv 0) (pa_cons pe_str pa_nil))) pa_nil))))))) (
      pssw_cons (by exact (psw_setN (i := 2) scF.nd rfl rfl rfl (pew_joinB pew_str (pe_lc (own := [("_law_k", 3)]) (g := gName 3) (tt := tTest (tOp (rIn K true) (tOp (rIxL K) (tVar 1) (tVar 3)) (tSl (rSlL K) (tVar 1) tNoPart (tPart (tVar 3))))) (te := tOp (rIxL K) (tVar 1) (tVar 3)) rfl scF.nd (pi_range1 rfl mR (pa_cons pe_int pa_nil))
        (blkOk_by (N := ["_law_pen_here", "_law_some", "_law_rare", "_law_k"]) (sc := defScope sFew) (by decide +kernel))
        (fun _ _ _ _ _ => by exact (pg_name (i := 3) scF.nd rfl (Or.inl rfl)))
        (fun _ _ _ _ _ => by exact (pts_one (pt_cmpR op_notIn_seq (pe_ix ix_list (pv 1) (pv 3) (fun _ _ => rfl)) (pe_slice sl_list (pv 1) po_none (po_some (pv 3))) (by rfl))))
        (fun _ _ _ _ _ => by exact (pe_ix ix_list (pv 1) (pv 3) (fun _ _ => rfl))))))) (
      pssw_one (by exact (psw_ret (pew_call W.ok hr2 rfl W.m W.k W.b pass0 (paw_cons (pew_loc (i := 0) rfl rfl) (paw_cons (pew_lst (paw_cons pew_str (paw_cons pew_str (paw_cons pew_str (paw_cons pew_str (paw_cons pew_str (paw_cons pew_str (paw_cons pew_str (paw_cons pew_str (paw_cons (pew_name (i := 2) rfl rfl) paw_nil)))))))))) paw_nil))))))), ?_⟩
    refine ⟨_, rfl, d, c, n, ns, _, rfl, pen, by omega, .inr ⟨_, rfl, (by show 0 < (Txt.replace sgsZ "q" "").length; rw [few_len]; decide), (by show (Txt.replace sgsZ "q" "").length < 1000000; rw [few_len]; decide), fun a H1 ha pen1 b1 => ?_⟩⟩
    refine ⟨_, rfl, d, c, n + 1, ns, _, rfl, pen1, by omega, .inr ⟨_, rfl, (by decide +kernel), (by decide +kernel), fun b H2 hb pen2 b2 => ?_⟩⟩
    refine ⟨_, rfl, d, c, n + 1 + 1, ns, _, rfl, pen2, by omega, .inr ⟨_, rfl, (by decide +kernel), (by decide +kernel), fun e H3 he pen3 b3 => ?_⟩⟩
    obtain ⟨lb, nb⟩ := yz_lets b hb
    have la := few_lets a ha
    have qa := few_nq a ha
    have qb := yz_nq b hb
    have le := par_is e he
    subst le
    refine ⟨(by show 3 ≤ sizeLine; decide), fun L nL => ?_⟩
    have bb : But d H (upd H3 L (.lst (cs [a, b, 40]))) := ((b1.trans b2).trans b3).trans (But.same (same_upd nL))
    have pen4 := pen3.keep (same_upd (o := .lst (cs [a, b, 40])) nL)
    have hL : (upd H3 L (.lst (cs [a, b, 40]))) L = some (.lst (cs [a, b, 40])) := upd_same
    refine fun s1 k1 => ?_
    refine fun s2 kp2 e2 => ⟨"", rfl, ?_⟩
    refine ⟨3, rfl, by decide, by decide, fun D nD => ?_⟩
    have nLD : L ≠ D := ne_of_none hL nD
    obtain ⟨nDd, nDc⟩ := pen4.fresh nD
    have nH : H D = none := bb.none nDd nD
    have hb0 : ∀ i, i < 3 → ∃ x, [a, b, 40][i]? = some x := fun i hi => ⟨[a, b, 40][i], List.getElem?_eq_getElem hi⟩
    refine lc_range (fun i G => ∃ ds : List Nat, G D = some (.lst (cs ds)) ∧ ds.Nodup ∧ (∀ x, x ∈ ds ↔ x ∈ [a, b, 40].take i) ∧ ds.length ≤ i ∧ G L = some (.lst (cs [a, b, 40])) ∧ PenAt G d c (n + 1 + 1 + 1) ns ∧ But d H G)
      ⟨[], upd_same, List.nodup_nil, fun x => by simp, Nat.le_refl _, (same_upd nD) _ _ hL, pen4.keep (same_upd nD), bb.trans (But.same (same_upd nD))⟩ (fun i G hi p => ?_) (fun G p => ?_)
    · obtain ⟨ds, pD, nd, mem, len, pL, pP, pB⟩ := p
      obtain ⟨x, hx⟩ := hb0 i hi
      have hx' : (cs [a, b, 40])[i]? = some (V.str (sg x)) := by
        unfold cs
        rw [List.getElem?_map, hx]
        rfl
      refine ⟨rfl, ?_⟩
      refine ⟨_, rfl, _, rfl, L, _, _, _, rfl, rfl, SqL.of pL, (by rw [Int.zero_add]; exact atI_nat hx'), ?_⟩
      refine ⟨_, rfl, _, rfl, _, rfl, L, _, rfl, SqL.of pL, fun S nS => ?_⟩
      rw [Int.zero_add, cs_cut]
      refine ⟨S, cs ([a, b, 40].take i), rfl, .inl (SqL.of upd_same), rfl, cs_flat _, _, rfl, ?_⟩
      rw [if_pos rfl, cs_in]
      have sm := fun o => same_upd (o := o) nS
      have tk : [a, b, 40].take (i + 1) = [a, b, 40].take i ++ [x] := by rw [List.take_succ, hx]; rfl
      by_cases mx : x ∈ [a, b, 40].take i
      · rw [decide_eq_true mx]
        refine iteF ⟨ds, sm _ _ _ pD, nd, fun y => ?_, by omega, sm _ _ _ pL, pP.keep (sm _), pB.trans (But.same (sm _))⟩
        rw [mem, tk, List.mem_append, List.mem_singleton]
        exact ⟨.inl, fun h => h.elim id fun e => e ▸ mx⟩
      · rw [decide_eq_false mx]
        refine iteT ?_
        refine ⟨_, rfl, _, rfl, L, _, _, _, rfl, rfl, SqL.of (sm _ _ _ pL), (atI_nat hx'), ?_⟩
        refine ⟨_, sm _ _ _ pD, Nat.lt_of_le_of_lt (by unfold cs; rw [List.length_map]; omega : _ ≤ 3) (by decide), ds ++ [x], ?_, ?_, ?_, ?_, ?_, ?_, ?_⟩
        · unfold cs
          rw [List.map_append]
          exact upd_same
        · rw [List.nodup_append]
          refine ⟨nd, List.nodup_cons.mpr ⟨by simp, List.nodup_nil⟩, fun y hy z hz => ?_⟩
          rw [List.mem_singleton] at hz
          subst hz
          exact fun e => mx (e ▸ (mem y).mp hy)
        · intro y
          rw [List.mem_append, mem, tk, List.mem_append]
        · rw [List.length_append]
          exact Nat.add_le_add len (Nat.le_refl 1)
        · rw [upd_ne nLD]
          exact sm _ _ _ pL
        · exact (pP.keep (sm _)).put nDd nDc
        · exact (pB.trans (But.same (sm _))).put nH
    · obtain ⟨ds, pD, nd, mem, len, pL, pP, pB⟩ := p
      replace mem : ∀ x, x ∈ ds ↔ x ∈ [a, b, 40] := mem
      replace len : ds.length ≤ 3 := len
      have hl : 2 ≤ ds.length := by
        rcases ds with _ | ⟨x, _ | ⟨y, r⟩⟩
        · exact absurd ((mem 40).mpr (by simp)) (by simp)
        · have h1 := (mem 40).mpr (by simp)
          have h2 := (mem b).mpr (by simp)
          rw [List.mem_singleton] at h1 h2
          exact absurd (h2.trans h1.symm) nb
        · simp
      have ej : cod (Txt.join "" (ds.map sg)) = ds := join_sg ds
      have sj : Sgn (Txt.join "" (ds.map sg)) := by
        refine ⟨?_, ?_, ?_, ?_, ?_⟩
        · rw [ej]
          intro x hx
          have h := (mem x).mp hx
          simp only [List.mem_cons, List.not_mem_nil, or_false] at h
          rcases h with rfl | rfl | rfl
          · exact la
          · exact lb
          · decide
        · rw [ej]
          exact nd
        · rw [← len_cod, ej]
          exact hl
        · rw [← len_cod, ej]
          exact len
        · rw [ej]
          intro x hx
          have h := (mem x).mp hx
          simp only [List.mem_cons, List.not_mem_nil, or_false] at h
          rcases h with rfl | rfl | rfl
          · exact qa
          · exact qb
          · decide
      have el : (Txt.join "" (ds.map sg)).length = ds.length := by rw [← len_cod, ej]
      refine ⟨D, ds.map sg, rfl, (by rw [← cs_strs]; exact SqL.of pD), (by rw [List.length_map]; omega), (by rw [sum_sg, List.length_map]; show ds.length + ds.length * 0 ≤ 16777216; omega), fun tr s3 h3 h4 s4 m4 k4 hn4 hm4 => ?_⟩
      generalize Txt.join "" (ds.map sg) = rare at sj hm4
      refine ⟨_, rfl, fun _ _ => ?_⟩
      refine fun p1 q1 e1 p2 q2 f2 p3 q3 e3 p4 q4 e4 p5 q5 e5 p6 q6 e6 p7 q7 e7 p8 q8 e8 => ?_
      have kp8 := ((((((q1.trans q2).trans q3).trans q4).trans q5).trans q6).trans q7).trans q8
      refine ⟨_, m4, _, rfl, kp8.fr _ hn4, hm4, fun _ => ⟨(by show 9 ≤ sizeLine; decide), fun N s9 nN kp9 e9 => ?_⟩⟩
      have sN := same_upd (o := .frz { cls := .type "list", data := .seq [Value.str "ab" s4.toks, .str "ab" p1.toks, .str "abc" p2.toks, .str "abc" p3.toks, .str "a " p4.toks, .str "x~" p5.toks, .str "01" p6.toks, .str "\"\\" p7.toks, .str rare tr].toArray } (.lst [.str "ab", .str "ab", .str "abc", .str "abc", .str "a ", .str "x~", .str "01", .str "\"\\", .str rare])) nN
      have k2 : s1.toks < s2.toks := by rw [e2]; exact Nat.lt_succ_self _
      have t4 : 0 < s4.toks := Nat.lt_of_le_of_lt (Nat.zero_le _) (Nat.lt_of_lt_of_le (Nat.lt_of_le_of_lt h3 h4) k4)
      have tr0 : 0 < tr := Nat.lt_of_lt_of_le (Nat.lt_of_le_of_lt (Nat.zero_le _) k2) h3
      have z1 : s4.toks < p1.toks := by rw [e1]; exact Nat.lt_succ_self _
      have z2 : p1.toks < p2.toks := by rw [f2]; exact Nat.lt_succ_self _
      have z3 : p2.toks < p3.toks := by rw [e3]; exact Nat.lt_succ_self _
      have z4 : p3.toks < p4.toks := by rw [e4]; exact Nat.lt_succ_self _
      have z5 : p4.toks < p5.toks := by rw [e5]; exact Nat.lt_succ_self _
      have z6 : p5.toks < p6.toks := by rw [e6]; exact Nat.lt_succ_self _
      have z7 : p6.toks < p7.toks := by rw [e7]; exact Nat.lt_succ_self _
      have z8 : p7.toks < p8.toks := by rw [e8]; exact Nat.lt_succ_self _
      have z9 : p8.toks ≤ s9.toks := kp9.tk
      have y7 := Nat.lt_of_lt_of_le z8 z9
      have y6 := Nat.lt_trans z7 y7
      have y5 := Nat.lt_trans z6 y6
      have y4 := Nat.lt_trans z5 y5
      have y3 := Nat.lt_trans z4 y4
      have y2 := Nat.lt_trans z3 y3
      have y1 := Nat.lt_trans z2 y2
      have y0 := Nat.lt_trans z1 y1
      have x1 := Nat.lt_trans t4 z1
      have x2 := Nat.lt_trans x1 z2
      have x3 := Nat.lt_trans x2 z3
      have x4 := Nat.lt_trans x3 z4
      have x5 := Nat.lt_trans x4 z5
      have x6 := Nat.lt_trans x5 z6
      have x7 := Nat.lt_trans x6 z7
      have yr : tr < s9.toks := Nat.lt_of_lt_of_le h4 (Nat.le_trans k4 (Nat.le_of_lt y0))
      refine ⟨d, c, n + 1 + 1 + 1, ns, _, rfl, pP.keep sN, by omega, .inr ⟨N, _, _, rfl, upd_same, rfl, (by show 0 < 9; decide), (by show 9 < 1000000; decide), fun j v u s' H' hv hu k5 pen5 b5 kp5 => ?_⟩⟩
      have ks : s.toks ≤ s'.toks := Nat.le_trans kb (Nat.le_trans k1 (Nat.le_trans (Nat.le_of_lt k2) (Nat.le_trans h3 (Nat.le_trans (Nat.le_of_lt yr) k5))))
      have hs : ∃ z t, v = .str z ∧ u = .str z t ∧ Sgn z ∧ 0 < t ∧ t < s9.toks := by
        rcases j with _ | _ | _ | _ | _ | _ | _ | _ | _ | j
        · cases hv; cases hu; exact ⟨_, _, rfl, rfl, sgn_some _ (by simp), t4, y0⟩
        · cases hv; cases hu; exact ⟨_, _, rfl, rfl, sgn_some _ (by simp), x1, y1⟩
        · cases hv; cases hu; exact ⟨_, _, rfl, rfl, sgn_some _ (by simp), x2, y2⟩
        · cases hv; cases hu; exact ⟨_, _, rfl, rfl, sgn_some _ (by simp), x3, y3⟩
        · cases hv; cases hu; exact ⟨_, _, rfl, rfl, sgn_some _ (by simp), x4, y4⟩
        · cases hv; cases hu; exact ⟨_, _, rfl, rfl, sgn_some _ (by simp), x5, y5⟩
        · cases hv; cases hu; exact ⟨_, _, rfl, rfl, sgn_some _ (by simp), x6, y6⟩
        · cases hv; cases hu; exact ⟨_, _, rfl, rfl, sgn_some _ (by simp), x7, y7⟩
        · cases hv; cases hu; exact ⟨_, _, rfl, rfl, sj, tr0, yr⟩
        · cases hv
      obtain ⟨z, t, rfl, rfl, sz, t0, t9⟩ := hs
      have e4 : n + 1 + 1 + 1 + 1 = n + 4 := by omega
      exact k z t s' H' sz t0 (Nat.lt_of_lt_of_le t9 k5) ks (e4 ▸ pen5) ((pB.trans (But.same sN)).trans b5)
end
end LA
end
section
set_option Elab.async false
set_option linter.all false
set_option maxRecDepth 100000
set_option maxHeartbeats 4100000
namespace LA
open PySem PySem.Spec PyProof.Rows L2 XS XT XK XW Builtin Builtin.Str
/-! ### places of a word in a line, and what is put there -/
/-- the word w begins at k -/
def hit (w L : List Nat) (k : Nat) : Prop := (L.drop k).take w.length = w
instance (w L : List Nat) (k : Nat) : Decidable (hit w L k) := inferInstanceAs (Decidable (_ = _))
theorem hit_le {w L : List Nat} {k : Nat} (h : hit w L k) (w0 : 1 ≤ w.length) : k + w.length ≤ L.length := by
  have e := congrArg List.length h
  rw [List.length_take, List.length_drop] at e
  omega
theorem hit_at {x y : Str} {i : Nat} (y0 : 1 ≤ y.length) : StrLaws.At x y x.length i ↔ hit (cod y) (cod x) i := by
  unfold StrLaws.At
  rw [StrLaws.subAt_eq, beq_iff_eq]
  have e : (cod y).length = y.length := len_cod y
  constructor
  · intro h
    unfold hit
    rw [e]
    exact h.2
  · intro h
    have l := hit_le h (by rw [e]; exact y0)
    rw [e, len_cod] at l
    refine ⟨l, ?_⟩
    unfold hit at h
    rw [e] at h
    exact h
theorem place_iff {x y : Str} (y0 : 1 ≤ y.length) : (!(occurrences x y 0 x.length 1).isEmpty) = true ↔ ∃ i, hit (cod y) (cod x) i := by
  rcases StrLaws.occ_head x y 1 (Nat.le_refl _) with ⟨e, no⟩ | ⟨i, r, e, a, _⟩
  · rw [e]
    exact ⟨fun h => absurd h (by decide), fun ⟨i, h⟩ => absurd ((hit_at y0).mpr h) (no i)⟩
  · rw [e]
    exact ⟨fun _ => ⟨i, (hit_at y0).mp a⟩, fun _ => rfl⟩
theorem repl1_none {x y z : Str} (y0 : 1 ≤ y.length) (h : ∀ i, ¬ hit (cod y) (cod x) i) : replN 1 x y z = x := by
  unfold replN
  rcases StrLaws.occ_head x y 1 (Nat.le_refl _) with ⟨e, no⟩ | ⟨i, r, e, a, _⟩
  · rw [e]
    rfl
  · exact absurd ((hit_at y0).mp a) (h i)
theorem cod_strSub (x : Str) (i j : Nat) : cod (strSub x i j) = ((cod x).take j).drop i := by
  show (x.cps.extract i j).toList = _
  rw [Array.toList_extract]
  show List.extract (cod x) i j = _
  rw [List.extract_eq_take_drop, List.drop_take]
theorem cod_app (a b : Array Nat) : cod ⟨a ++ b⟩ = a.toList ++ b.toList := by
  show (a ++ b).toList = _
  rw [Array.toList_append]
theorem repl1_some {x y z : Str} {i : Nat} (y0 : 1 ≤ y.length) (h : hit (cod y) (cod x) i) (no : ∀ j, j < i → ¬ hit (cod y) (cod x) j) :
    cod (replN 1 x y z) = (cod x).take i ++ cod z ++ (cod x).drop (i + y.length) := by
  unfold replN
  rcases StrLaws.occ_head x y 1 (Nat.le_refl _) with ⟨e, n⟩ | ⟨k, r, e, a, n⟩
  · exact absurd ((hit_at y0).mpr h) (n i)
  · have lr : (k :: r).length ≤ 1 := by rw [← e]; exact StrLaws.occ_length_le x y 0 x.length 1
    have hr : r = [] := by
      cases r with
      | nil => rfl
      | cons _ _ => simp at lr
    subst hr
    have hk : k = i := by
      rcases Nat.lt_trichotomy k i with l | l | l
      · exact absurd ((hit_at y0).mp a) (no k l)
      · exact l
      · exact absurd ((hit_at y0).mpr h) (n i l)
    subst hk
    have c0 : (([k] : List Nat).isEmpty || (y.length == 0 && z.length == 0)) = false := by
      have e0 : (y.length == 0) = false := beq_eq_false_iff_ne.mpr (by omega)
      rw [e0]
      rfl
    rw [e, c0, if_neg (by decide)]
    show cod ⟨((strSub x 0 k).cps ++ z.cps ++ (strSub x (k + y.length) x.length).cps)⟩ = _
    have e1 : (strSub x 0 k).cps.toList = (cod x).take k := (cod_strSub x 0 k).trans (by rw [List.drop_zero])
    have e2 : (strSub x (k + y.length) x.length).cps.toList = (cod x).drop (k + y.length) := (cod_strSub x _ _).trans (by rw [List.take_of_length_le (by rw [len_cod]; exact Nat.le_refl _)])
    rw [cod_app, Array.toList_append, e1, e2]
/-- where the going through a line stands: what is found, at k, with p places -/
structure Dd (ev : Bool) (w nw L f : List Nat) (k p : Nat) : Prop where
  le : k ≤ L.length
  zero : p = 0 → f = L.take k ∧ ∀ i, i < k → ¬ hit w L i
  pos : 0 < p → ∃ i, hit w L i
  all : ev = true → f ++ StrLaws.replL w nw (L.drop k) = StrLaws.replL w nw L
  one : ev = false → 0 < p → ∃ i, hit w L i ∧ (∀ j, j < i → ¬ hit w L j) ∧ i + w.length ≤ k ∧ f = L.take i ++ nw ++ (L.take k).drop (i + w.length)
theorem Dd.start (ev : Bool) (w nw L : List Nat) : Dd ev w nw L [] 0 0 :=
  ⟨Nat.zero_le _, fun _ => ⟨by simp, fun i h => absurd h (Nat.not_lt_zero i)⟩, fun h => absurd h (by decide), fun _ => by simp, fun _ h => absurd h (by decide)⟩
theorem Dd.hit {ev : Bool} {w nw L f : List Nat} {k p : Nat} (d : Dd ev w nw L f k p) (w0 : 1 ≤ w.length) (h : LA.hit w L k) (hp : ev = true ∨ p = 0) : Dd ev w nw L (f ++ nw) (k + w.length) (p + 1) := by
  have le := hit_le h w0
  refine ⟨le, fun e => absurd e (by omega), fun _ => ⟨k, h⟩, fun e => ?_, fun e _ => ?_⟩
  · rw [← d.all e, List.append_assoc]
    congr 1
    have hk : k < L.length := by omega
    have hd : L.drop k = L[k] :: L.drop (k + 1) := List.drop_eq_getElem_cons hk
    have hn : w ≠ [] := fun z => by rw [z] at w0; exact absurd w0 (by decide)
    have ht : List.take w.length (L[k] :: L.drop (k + 1)) = w := by rw [← hd]; exact h
    rw [hd, StrLaws.replL_hit hn ht, ← hd, List.drop_drop]
  · have p0 : p = 0 := hp.resolve_left (by rw [e]; decide)
    obtain ⟨ef, no⟩ := d.zero p0
    refine ⟨k, h, no, Nat.le_refl _, ?_⟩
    have e0 : (L.take (k + w.length)).drop (k + w.length) = [] := List.drop_of_length_le (by rw [List.length_take]; omega)
    rw [e0, List.append_nil, ef]
theorem Dd.miss {ev : Bool} {w nw L f : List Nat} {k p c : Nat} (d : Dd ev w nw L f k p) (hc : L[k]? = some c) (h : ¬ (LA.hit w L k ∧ (ev = true ∨ p = 0))) : Dd ev w nw L (f ++ [c]) (k + 1) p := by
  obtain ⟨hk, ec⟩ := List.getElem?_eq_some_iff.mp hc
  have et : L.take (k + 1) = L.take k ++ [c] := by rw [List.take_succ, hc]; rfl
  refine ⟨hk, fun p0 => ?_, d.pos, fun e => ?_, fun e hp => ?_⟩
  · obtain ⟨ef, no⟩ := d.zero p0
    refine ⟨by rw [ef, et], fun i hi => ?_⟩
    by_cases e : i = k
    · subst e
      exact fun z => h ⟨z, .inr p0⟩
    · exact no i (by omega)
  · rw [← d.all e, List.append_assoc]
    congr 1
    have hd : L.drop k = c :: L.drop (k + 1) := by rw [List.drop_eq_getElem_cons hk, ec]
    have hn : ¬ List.take w.length (c :: L.drop (k + 1)) = w := by rw [← hd]; exact fun z => h ⟨z, .inl e⟩
    rw [hd, StrLaws.replL_miss hn]
    rfl
  · obtain ⟨i, hi, no, le, ef⟩ := d.one e hp
    refine ⟨i, hi, no, by omega, ?_⟩
    rw [et, List.drop_append_of_le_length (by rw [List.length_take]; omega), ef, List.append_assoc (L.take i ++ nw)]
theorem cod_inj {x y : Str} (h : cod x = cod y) : x = y := by
  obtain ⟨a⟩ := x
  obtain ⟨b⟩ := y
  have h : a.toList = b.toList := h
  rw [Array.toList_inj.mp h]
/-- at the line's end -/
theorem Dd.fin {c : Ch} {z f : Str} {k p : Nat} (l2 : c.i < 2) (y0 : 1 ≤ c.a.length) (d : Dd (decide (c.i = 1)) (cod c.a) (cod c.b) (cod z) (cod f) k p) (hk : k = z.length) : c.done z = f ∧ c.place z = decide (0 < p) := by
  have hk : k = (cod z).length := by rw [hk, len_cod]
  subst hk
  have lw : (cod c.a).length = c.a.length := len_cod c.a
  have pl : c.place z = decide (0 < p) := by
    unfold Ch.place
    rw [if_pos l2]
    by_cases p0 : p = 0
    · obtain ⟨_, no⟩ := d.zero p0
      rw [decide_eq_false (by omega), ← Bool.not_eq_true, place_iff y0]
      rintro ⟨i, h⟩
      have := hit_le h (by rw [lw]; exact y0)
      exact no i (by omega) h
    · rw [decide_eq_true (by omega), place_iff y0]
      exact d.pos (by omega)
  refine ⟨?_, pl⟩
  obtain ⟨i, a, b⟩ := c
  have l2 : i < 2 := l2
  rcases (by omega : i = 0 ∨ i = 1) with rfl | rfl
  · show replN 1 z a b = f
    by_cases p0 : p = 0
    · obtain ⟨ef, no⟩ := d.zero p0
      rw [repl1_none y0 fun i h => no i (by have := hit_le h (by rw [lw]; exact y0); omega) h]
      rw [List.take_of_length_le (Nat.le_refl _)] at ef
      exact (cod_inj ef).symm
    · obtain ⟨i, hi, no, le, ef⟩ := d.one rfl (by omega)
      refine cod_inj ?_
      have ef : cod f = (cod z).take i ++ cod b ++ ((cod z).take (cod z).length).drop (i + (cod a).length) := ef
      have e := repl1_some (z := b) y0 hi no
      have e : cod (replN 1 z a b) = (cod z).take i ++ cod b ++ (cod z).drop (i + a.length) := e
      rw [e, ef, List.take_of_length_le (Nat.le_refl _), len_cod]
  · show Txt.replace z a b = f
    refine cod_inj ?_
    have e := d.all rfl
    have e : cod f ++ StrLaws.replL (cod a) (cod b) ((cod z).drop (cod z).length) = StrLaws.replL (cod a) (cod b) (cod z) := e
    rw [List.drop_of_length_le (Nat.le_refl _), StrLaws.replL_nil, List.append_nil] at e
    rw [e]
    exact StrLaws.replace_list y0
end LA
end
section
set_option Elab.async false
set_option linter.all false
set_option maxRecDepth 100000
set_option maxHeartbeats 4100000
namespace LA
open PySem PySem.Spec PyProof.Rows L2 XS XT XK XW XZt
theorem lineB_of {y : Str} : lineB y = true ↔ ∀ c ∈ cod y, Lt c := by
  unfold lineB
  rw [List.all_eq_true]
  exact ⟨fun h c hc => of_decide_eq_true (h c hc), fun h c hc => decide_eq_true (h c hc)⟩
/-- the texts of a change -/
def Ch.words (c : Ch) : List Str := c.a :: (if c.i < 3 then [c.b] else [])
theorem lineB_short {z : Str} (h : shortB z = true) : lineB z = true := by
  unfold shortB wordB at h
  rw [Bool.and_eq_true, Bool.and_eq_true] at h
  exact h.1.1
theorem ChOk.words {c : Ch} (h : ChOk c) (i5 : c.i < 5) : ∀ y ∈ c.words, lineB y = true ∧ y.length ≤ 100 := by
  intro y hy
  have ha : lineB c.a = true := by
    by_cases e : c.i = 2
    · have z := (h.sw e).1
      unfold letB wordB at z
      rw [Bool.and_eq_true, Bool.and_eq_true] at z
      exact z.1.1
    · exact lineB_short (h.one e)
  unfold Ch.words at hy
  rcases List.mem_cons.mp hy with rfl | hy
  · exact ⟨ha, Nat.le_of_lt h.la⟩
  · by_cases i3 : c.i < 3
    · rw [if_pos i3, List.mem_singleton] at hy
      subst hy
      refine ⟨?_, Nat.le_of_lt h.lb⟩
      by_cases e : c.i = 2
      · exact (h.sw e).2.1
      · have z := h.new (by omega)
        unfold newB at z
        rw [Bool.and_eq_true] at z
        exact z.1
    · rw [if_neg i3] at hy
      cases hy
/-- a text that may be shown -/
structure Fine (D : Str) : Prop where
  few : D.length ≤ 40000
  ch : ∀ c ∈ cod D, Lt c
section
variable {P : Program} {w : World} {K : PySem.W.Frag} {mg : Str → Option Value} {base : Heap}
/-- text.index(one that is there) -/
def rIdx : V → List V → Hp → VK → Prop := fun x xs H Q => ∃ (z y : Str) (i : Nat) (r : List Nat), x = .str z ∧ xs = [.str y] ∧ Builtin.Str.occurrences z y 0 z.length 1 = i :: r ∧ Q (.int i) H
theorem mt_index {X : Cx} : MtR X "str.index" rIdx := by
  intro pins s σ H x xs v us Q I rx rxs h
  obtain ⟨z, y, i, r, rfl, rfl, e, q⟩ := h
  obtain ⟨t, rfl⟩ := rx
  obtain ⟨u, rfl, ru⟩ := rxs.one
  obtain ⟨t', rfl⟩ := ru
  refine call_gives PySem.F.slot_str_index (typeIs_str _ _ _) PySem.F.entry_str_index (PySem.F.args_str_index_2 _ _) (gives_str_index z y t t' i r e) ?_
  exact ⟨.int i, H, I.tok _, ⟨_, rfl⟩, q⟩
theorem idx_is {c : Nat} : ∀ (l : List Nat) (i : Nat), l[i]? = some c → (∀ k, k < i → l[k]? ≠ some c) → l.idxOf c = i
  | [], i, h, _ => by simp at h
  | a :: l, 0, h, _ => by
    have e : a = c := by simpa using h
    subst e
    exact List.idxOf_cons_self
  | a :: l, i + 1, h, no => by
    have e : a ≠ c := fun z => no 0 (by omega) (by rw [z]; rfl)
    rw [List.idxOf_cons, beq_eq_false_iff_ne.mpr e]
    show l.idxOf c + 1 = i + 1
    rw [idx_is l i (by simpa using h) fun k hk z => no (k + 1) (by omega) (by simpa using z)]
theorem at_one {a : Str} {c i : Nat} : StrLaws.At a ⟨#[c]⟩ a.length i ↔ (cod a)[i]? = some c := StrLaws.subAt_one a c i
theorem occ_one {a : Str} {c : Nat} (h : c ∈ cod a) : ∃ r, Builtin.Str.occurrences a ⟨#[c]⟩ 0 a.length 1 = (cod a).idxOf c :: r := by
  rcases StrLaws.occ_head a ⟨#[c]⟩ 1 (Nat.le_refl _) with ⟨_, no⟩ | ⟨i, r, e, at_, no⟩
  · obtain ⟨i, hi, e⟩ := List.mem_iff_getElem.mp h
    exact absurd (at_one.mpr (by rw [List.getElem?_eq_getElem hi, e])) (no i)
  · refine ⟨r, ?_⟩
    rw [e, idx_is (cod a) i (at_one.mp at_) fun k hk z => no k hk (at_one.mpr z)]
theorem occ_not {a : Str} {c : Nat} (h : c ∉ cod a) : Builtin.Str.occurrences a ⟨#[c]⟩ 0 a.length 1 = [] := by
  rcases StrLaws.occ_head a ⟨#[c]⟩ 1 (Nat.le_refl _) with ⟨e, _⟩ | ⟨i, r, e, at_, no⟩
  · exact e
  · exact absurd (List.mem_of_getElem? (at_one.mp at_)) h
theorem sqT_same {H H' : Hp} {p : Addr} {xs : List V} (s : Same H H') (h : SqT K H p xs) : SqT K H' p xs := by
  rcases h with (h | ⟨u, h⟩) | h
  · exact .inl (.inl (s _ _ h))
  · exact .inl (.inr ⟨u, s _ _ h⟩)
  · exact .inr h
theorem cod_add (f b : Str) : cod (f ++ b) = cod f ++ cod b := cod_app _ _
theorem len_add (f b : Str) : (f ++ b).length = f.length + b.length := by
  rw [← len_cod, cod_add, List.length_append, len_cod, len_cod]
theorem cod_cut (z : Str) (i j : Nat) (h : i ≤ z.length) : cod (cutS z (some (i : Int)) (some (j : Int))) = ((cod z).drop i).take (min j z.length - i) := by
  show ((((cod z).drop (HT.sIx z.length 0 (some (i : Int)))).take (HT.sIx z.length z.length (some (j : Int)) - HT.sIx z.length 0 (some (i : Int)))).toArray).toList = _
  rw [HT.sIx_nat, HT.sIx_nat]
  show ((cod z).drop (min i z.length)).take (min j z.length - min i z.length) = _
  rw [Nat.min_eq_left h]
theorem cut_hit {a z : Str} {k : Nat} (h : k ≤ z.length) : decide (V.str (cutS z (some (k : Int)) (some ((k : Int) + (a.length : Int)))) = V.str a) = decide (hit (cod a) (cod z) k) := by
  have e : cod (cutS z (some (k : Int)) (some ((k : Int) + (a.length : Int)))) = ((cod z).drop k).take (cod a).length := by
    have e := cod_cut z k (k + a.length) h
    rw [show (((k + a.length : Nat) : Int)) = (k : Int) + (a.length : Int) from rfl] at e
    rw [e, List.take_eq_take_iff, List.length_drop, len_cod, len_cod]
    omega
  refine decide_eq_decide.mpr ⟨fun x => ?_, fun x => ?_⟩
  · have x : cutS z (some (k : Int)) (some ((k : Int) + (a.length : Int))) = a := V.str.inj x
    unfold hit
    rw [← e, x]
  · unfold hit at x
    rw [← e] at x
    rw [cod_inj x]
def WdL (p0 : Addr) (i : Nat) (a b z : Str) (H1 : Hp) (m : Nat) (σ : L2.St) (G : Hp) : Prop := ∃ (f : Str) (k p : Nat), m = z.length - k ∧ σ = [some (.ref p0), some (.str z), some (.str (srt i)), none, some (.str a), some (.str f), some (.int k), some (.int p), none] ∧ Dd (decide (i = 1)) (cod a) (cod b) (cod z) (cod f) k p ∧ f.length ≤ 101 * k ∧ p ≤ k ∧ Same H1 G ∧ ∀ c ∈ cod f, Lt c
end
end LA
end
section
set_option Elab.async false
set_option linter.all false
set_option maxRecDepth 100000
set_option maxHeartbeats 4100000
namespace LA
open PySem L2 XS XT XK
abbrev sJline : Stmt := top 33
theorem cut_mem {w : Str} {lo hi : Option Int} {x : Nat} (h : x ∈ cod (cutS w lo hi)) : x ∈ cod w := List.mem_of_mem_drop (List.mem_of_mem_take h)
theorem cut_tail (x : V) (us : List V) : cutV (x :: us) (some 1) none = us := by
  unfold cutV
  show ((x :: us).drop (HT.sIx (us.length + 1) 0 (some ((1 : Nat) : Int)))).take (HT.sIx (us.length + 1) (us.length + 1) none - HT.sIx (us.length + 1) 0 (some ((1 : Nat) : Int))) = us
  rw [HT.sIx_nat, HT.sIx_none, Nat.min_eq_left (by omega)]
  show us.take (us.length + 1 - 1) = us
  rw [Nat.add_sub_cancel, List.take_length]
theorem not_whole (x : V) (us : List V) : ¬ (HT.sIx (x :: us).length 0 (some 1) = 0 ∧ HT.sIx (x :: us).length (x :: us).length none = (x :: us).length) := by
  intro z
  have e : HT.sIx (us.length + 1) 0 (some ((1 : Nat) : Int)) = 0 := z.1
  rw [HT.sIx_nat, Nat.min_eq_left (by omega)] at e
  cases e
theorem fresh_back {H H' : Hp} {p : Addr} (s : Same H H') (n : H' p = none) : H p = none := by
  cases e : H p with
  | none => rfl
  | some o => exact absurd ((s _ _ e).symm.trans n) (by simp)
section
variable {P : Program} {w : World} {K : PySem.W.Frag} {mg : Str → Option Value} {base : Heap}
/-- how draw is called -/
structure DrawAt (P : Program) (w : World) (K : PySem.W.Frag) (mg : Str → Option Value) (base : Heap) (f : Addr) (fd : FuncData) : Prop where
  ok : FnOk P w K mg base CX0 1 f fd ["_law_pen_here", "_law_span"] spDraw
  m : mg "_law_draw" = some (.ref f)
  k : PySem.W.keepIn K (.ref f) = true
  b : Binds K fd ["_law_pen_here", "_law_span"] []
def spJline : Sp := fun vs H Q _ => ∃ (d c L : Addr) (n : Int) (ns : List Int) (ws : List Str) (z : Str), vs = [.ref d, .ref L, .str z, .int 14] ∧ PenAt H d c n ns ∧ n + 25 < 1000000 ∧ H L = some (.lst (ws.map V.str)) ∧ ws.length ≤ 20 ∧ (∀ y ∈ ws, lineB y = true ∧ y.length ≤ 100) ∧ ((∀ c ∈ cod z, Lt c) ∧ z.length ≤ 10) ∧
  ∀ (y : Str) (H' : Hp), lineB y = true → y.length ≤ 14 → PenAt H' d c (n + 25) ns → But d H H' → Q (.str y) H'
theorem scJn : FnScope ["_law_pen_here", "_law_words", "_law_signs_here", "_law_most_letters", "_law_found", "_law_k", "_law_was", "_law_cut"] ["_law_pen_here", "_law_words", "_law_signs_here", "_law_most_letters"] (defScope sJline) := ⟨rfl, rfl, rfl, by decide +kernel, rfl, by decide +kernel, by decide +kernel⟩
theorem ok_jline {f fD fR fP : Addr} {fd fdD fdR fdP : FuncData} (F : Fun K "_law_jline" "_law_jline" sJline f fd) (T : Txt mg) (mR : mg "range" = none) (D : DrawAt P w K mg base fD fdD) (M : PickAt P w K mg base fP fdP)
    (R : CallOf P w K mg base 3 "_law_row" ["_law_pen_here", "_law_signs_here", "_law_least", "_law_most_letters"] spRow fR fdR) :
    FnOk P w K mg base CX0 4 f fd ["_law_pen_here", "_law_words", "_law_signs_here", "_law_most_letters"] spJline := by
  refine F.ok scJn (fun vs H Q E h => ?_) (fun cdv A outer s H vs Q E hr h => ?_)
  · obtain ⟨d, c, L, n, ns, ws, z, rfl, _⟩ := h
    rfl
  · obtain ⟨d, c, L, n, ns, ws, z, rfl, pen, hn, hL, lw, aw, sz, q⟩ := h
    have hr2 : Room 2 _ := hr.mono (by decide)
    have hr1 : Room 1 _ := hr.mono (by decide)
    refine ⟨_, (pss_cons (by exact (ps_set (i := 4) scJn.nd rfl (.inl rfl) pe_str)) (pss_cons (by exact (ps_for PassesOwn.never rfl (pi_range1 rfl mR (pa_cons (pe_call D.ok hr1 rfl D.m D.k D.b .nil pass0 (pa_cons (pv 0) (pa_cons pe_int pa_nil))) pa_nil)) (pg_name (i := 5) scJn.nd rfl (Or.inl rfl)) (pss_cons (by exact (ps_set (i := 6) scJn.nd rfl (.inl rfl) (pe_call M.ok hr2 rfl M.m M.k M.b .nil pass0 (pa_cons (pv 0) (pa_cons (pe_op op_cat (pe_callTy call_list_of (by rfl) T.list (by decide +kernel) (pa_cons (pv 1) pa_nil)) (pe_lst (pa_cons (pv 2) pa_nil))) pa_nil))))) (pss_cons (by exact (ps_set (i := 7) scJn.nd rfl (.inl rfl) (pe_call D.ok hr1 rfl D.m D.k D.b .nil pass0 (pa_cons (pv 0) (pa_cons (pe_op op_add (pe_callB call_len_str (by rfl) T.len PySem.boot_len (pa_cons (pv 6) pa_nil)) pe_int) pa_nil))))) (pss_one (by exact (ps_set (i := 4) scJn.nd rfl (.inl rfl) (pe_op op_add_str (pv 4) (pe_call M.ok hr2 rfl M.m M.k M.b .nil pass0 (pa_cons (pv 0) (pa_cons (pe_lst (pa_cons (pv 6) (pa_cons (pe_slice sl_str (pv 6) po_none (po_some (pv 7))) (pa_cons (pe_slice sl_str (pv 6) (po_some (pv 7)) po_none) (pa_cons (pe_call R.ok hr rfl R.m R.k R.b .nil pass0 (pa_cons (pv 0) (pa_cons (pe_op op_add_str (pv 2) pe_str) (pa_cons pe_int (pa_cons pe_int pa_nil))))) pa_nil))))) pa_nil))))))))))) (pss_one (by exact (ps_ret (pe_slice sl_str (pv 4) po_none (po_some (pv 3)))))))), ?_⟩
    have n0 := pen.n0
    refine ⟨_, rfl, d, c, n, ns, 5, rfl, pen, by omega, by decide, by decide, fun r H1 r0 r1 pen1 bb1 => ?_⟩
    refine ⟨r, rfl, by omega, by omega, ?_⟩
    refine for_range (lo := 0) (n := r.toNat) (fun i σ X => ∃ (y : Str) (x5 x6 x7 : Option V), σ = [some (.ref d), some (.ref L), some (.str z), some (.int 14), some (.str y), x5, x6, x7] ∧ lineB y = true ∧ y.length ≤ 100 * i ∧ PenAt X d c (n + 1 + 6 * i) ns ∧ But d H X)
      ⟨"", _, _, _, rfl, by decide +kernel, Nat.zero_le _, (show PenAt _ d c (n + 1 + 6 * (0 : Int)) ns from pen1.le (by omega)), bb1⟩ (fun i σ X hi p => ?_) (fun σ X p => ?_)
    · obtain ⟨y, x5, x6, x7, rfl, ly, yl, pX, bX⟩ := p
      have il : i < 5 := by omega
      have nLd : L ≠ d := by
        obtain ⟨kvs, _, _, pp⟩ := pen
        exact ne_of hL pp.dc (by intro e; cases e)
      have hLX := bX _ _ hL nLd
      have zl : z.length ≤ 10 := sz.2
      refine ⟨_, rfl, _, rfl, L, _, rfl, .inl (SqL.of hLX), fun l1 n1 => ⟨_, rfl, (by show 1 ≤ sizeLine; decide), fun l2 n2 => ⟨l1, l2, _, _, rfl, rfl, (same_upd n2) _ _ upd_same, upd_same, ?_, fun l3 n3 => ?_⟩⟩⟩
      · rw [List.length_map]
        exact Nat.le_trans (Nat.add_le_add_right lw 1) (by decide)
      have s3 := ((same_upd (o := .lst (ws.map V.str)) n1).trans (same_upd (o := .lst [.str z]) n2)).trans (same_upd (o := .lst (ws.map V.str ++ [.str z])) n3)
      refine ⟨d, c, n + 1 + 6 * i, ns, _, rfl, pX.keep s3, by omega, .inl ⟨l3, _, rfl, upd_same, by rw [List.length_append]; exact Nat.succ_pos _, by rw [List.length_append, List.length_map]; exact Nat.lt_of_le_of_lt (Nat.add_le_add_right lw 1) (by decide), fun v H2 hv pen2 bb2 => ?_⟩⟩
      obtain ⟨wv, rfl, lwv, wl⟩ : ∃ wv : Str, v = .str wv ∧ lineB wv = true ∧ wv.length ≤ 100 := by
        rcases List.mem_append.mp hv with hv | hv
        · obtain ⟨x, hx, rfl⟩ := List.mem_map.mp hv
          exact ⟨x, rfl, (aw x hx).1, (aw x hx).2⟩
        · rw [List.mem_singleton] at hv
          subst hv
          exact ⟨z, rfl, lineB_of.mpr sz.1, by omega⟩
      have wlL : wv.length ≤ sizeLine := Nat.le_trans wl (by decide)
      refine ⟨_, rfl, _, rfl, wv, rfl, wlL, _, _, rfl, rfl, d, c, n + 1 + 6 * i + 1, ns, (wv.length : Int) + 1, rfl, pen2, by omega, by omega, by omega, fun cut H3 c0 c1 pen3 bb3 => ?_⟩
      have lzq : ∀ x ∈ cod (z ++ "q"), Lt x := fun x hx => by
        rw [cod_add] at hx
        rcases List.mem_append.mp
              hx with hx | hx
        · exact sz.1 x hx
        · exact (by decide +kernel : ∀ x ∈ cod "q", Lt x) x hx
      have lq : (z ++ "q").length = z.length + 1 := by
        rw [← len_cod, cod_add, List.length_append, len_cod]
        rfl
      refine ⟨_, rfl, _, rfl, _, rfl, _, rfl, _, rfl, cut, rfl, wv, rfl, wlL, _, rfl, _, rfl, cut, rfl, wv, rfl, wlL, ?_⟩
      refine ⟨_, rfl, _, rfl, z, "q", rfl, rfl, Nat.le_trans (Nat.add_le_add_right zl 1) (by decide), ?_⟩
      refine ⟨d, c, n + 1 + 6 * i + 1 + 1, ns, z ++ "q", 0, 2, rfl, pen3, by omega, by omega, by omega, by decide, by decide, fun y2 H4 hy2 m1 m2 pen4 bb4 => ⟨(by show 4 ≤ sizeLine; decide), fun l4 n4 => ?_⟩⟩
      have s4 := same_upd (o := .lst [.str wv, .str (cutS wv none (some cut)), .str (cutS wv (some cut) none), .str y2]) n4
      refine ⟨d, c, n + 1 + 6 * i + 1 + 1 + 1 + 2, ns, _, rfl, pen4.keep s4, by omega, .inl ⟨l4, _, rfl, upd_same, (by show 0 < 4; decide), (by show 4 < 1000000; decide), fun v2 H5 hv2 pen5 bb5 => ?_⟩⟩
      obtain ⟨u, rfl, lu, ul⟩ : ∃ u : Str, v2 = .str u ∧ lineB u = true ∧ u.length ≤ 100 := by
        simp only [List.mem_cons, List.not_mem_nil, or_false] at hv2
        rcases hv2 with rfl | rfl | rfl | rfl
        · exact ⟨wv, rfl, lwv, wl⟩
        · exact ⟨_, rfl, lineB_of.mpr fun x hx => lineB_of.mp lwv x (cut_mem hx), Nat.le_trans (cutS_length _ _ _) wl⟩
        · exact ⟨_, rfl, lineB_of.mpr fun x hx => lineB_of.mp lwv x (cut_mem hx), Nat.le_trans (cutS_length _ _ _) wl⟩
        · exact ⟨y2, rfl, lineB_of.mpr fun x hx => lzq x (hy2 x hx), by omega⟩
      have lyu : (y ++ u).length = y.length + u.length := by rw [← len_cod, cod_add, List.length_append, len_cod, len_cod]
      refine ⟨y, u, rfl, rfl, Nat.le_trans (show y.length + u.length ≤ 600 by omega) (by decide), y ++ u, _, _, _, rfl, lineB_of.mpr fun x hx => ?_, by omega, pen5.le (by omega), ((((bX.trans (But.same s3)).trans bb2).trans bb3).trans bb4).trans ((But.same s4).trans bb5)⟩
      rw [cod_add] at hx
      rcases List.mem_append.mp
            hx with hx | hx
      · exact lineB_of.mp ly x hx
      · exact lineB_of.mp lu x hx
    · obtain ⟨y, x5, x6, x7, rfl, ly, yl, pX, bX⟩ := p
      refine ⟨_, rfl, _, rfl, _, rfl, y, rfl, Nat.le_trans yl (Nat.le_trans (by omega : 100 * r.toNat ≤ 500) (by decide)), ?_⟩
      refine q _ X (lineB_of.mpr fun x hx => lineB_of.mp ly x (cut_mem hx)) ?_ (pX.le (by omega)) bX
      rw [← len_cod]
      show (cod (cutS y none (some ((14 : Nat) : Int)))).length ≤ 14
      rw [cod_pre]
      exact List.length_take_le _ _
end
end LA
end
section
set_option Elab.async false
set_option linter.all false
set_option maxRecDepth 100000
set_option maxHeartbeats 4100000
/-! f(k=v, ..), text.startswith(word, at) -/
namespace XW
open PySem PySem.Spec PyProof.Rows L2 XD
section
variable {X : Cx} {CX : CXT} {k : Nat} {f : Addr} {fd : FuncData} {ps ks : List Str} {sp : Sp} {E : XK} {x : Str} {p pos : Pos} {kws : List Keyword} {tk : TA} {g : List Value → List Value → List Value} {gV : List V → List V → List V}
def tCallK0 (sp : Sp) (gV : List V → List V → List V) (E : XK) (tk : TA) : TE := fun σ H Q => tk σ H fun zs H2 => sp (gV [] zs) H2 Q E
theorem pe_callK0 (F : FnOk X.prog X.w X.K X.mg X.base CX k f fd ps sp) (hr : Room k X.A) (hg : Gl X x) (hm : X.mg x = some (.ref f)) (hk : PySem.W.keepIn X.K (.ref f) = true) (hb : KBinds X.K fd ps ks g gV) (hx : Passes CX X E) (hkw : PK X kws tk)
    (hall : (backToKw pos (keywordEach kws X.env)).all (·.1.isSome) = true := by rfl) (hks : (backToKw pos (keywordEach kws X.env)).filterMap (·.1) = ks := by rfl)
    (hdb : (x == ("__debug__" : Str)) = false := by decide)
    (hpl : ((backTo pos (starEach [] X.env)).any (·.1) || (backToKw pos (keywordEach kws X.env)).any (·.1.isNone)) = false := by rfl) :
    PE X (.Call (.Name x p) [] kws pos) (tCallK0 sp gV E tk) := by
  refine ⟨fun pins s σ H Q I h => ?_⟩
  refine wpAny_Call_Name_kw (ld_glob I hg hm ?_ hdb)
  refine PySem.W.callWith_KW0 (first := []) (h₀ := X.base) I.ok.mod.kin hk hall (thn (hkw.run pos pins s σ H _ I h) fun ws s2 ⟨zs, H2, I2, rz, q2⟩ => ⟨I2.kIn, ?_⟩) hpl
  rw [hks]
  exact run_fnk (us := []) (vs := []) F hr hb hx I2 .nil rz q2
/-- text.startswith(word, at) -/
def rSw : V → List V → Hp → VK → Prop := fun x xs H Q => ∃ (z y : Str) (i : Nat), x = .str z ∧ xs = [.str y, .int (i : Int)] ∧ Q (.bl (decide (i + y.length ≤ z.length) && Builtin.Str.subAt z y i)) H
theorem mt_sw3 : MtR X "str.startswith" rSw := by
  intro pins s σ H x xs v us Q I rx rxs h
  obtain ⟨z, y, i, rfl, rfl, q⟩ := h
  obtain ⟨t, rfl⟩ := rx
  cases rxs with
  | cons r1 r2 =>
    cases r2 with
    | cons ru rn =>
      cases rn
      obtain ⟨t1, rfl⟩ := r1
      obtain ⟨t2, rfl⟩ := ru
      refine call_gives PySem.F.slot_str_startswith (typeIs_str _ _ _) PySem.F.entry_str_startswith (PySem.F.args_str_startswith_3 _ _ _) (gives_str_startswith_from z y (i : Int) t t1 t2) ?_
      have e : fromIndex z.length (i : Int) = i := by
        unfold fromIndex
        rw [if_neg (by omega)]
        omega
      rw [e]
      exact ⟨.bl _, H, I, rfl, q⟩
end
end XW
end
section
set_option Elab.async false
set_option linter.all false
set_option maxRecDepth 100000
set_option maxHeartbeats 4100000
namespace SmX
open PySem PySem.Spec PyProof.Rows L2 PySem.SeqAt
/-! ### two lists, or two tuples, that hold the very same objects -/
theorem same_vals : ∀ {xs : List V} {us vs : List Value}, (∀ x ∈ xs, ∃ a, x = .ref a) → Vals xs us → Vals xs vs → us = vs
  | [], _, _, _, h1, h2 => by
    cases h1
    cases h2
    rfl
  | x :: xs, _, _, r, h1, h2 => by
    obtain ⟨a, rfl⟩ := r x (List.mem_cons_self ..)
    cases h1 with
    | cons p1 q1 =>
      cases h2 with
      | cons p2 q2 =>
        obtain rfl := same_vals (fun y m => r y (List.mem_cons_of_mem _ m)) q1 q2
        have e1 : _ = Value.ref a := p1
        have e2 : _ = Value.ref a := p2
        rw [e1, e2]
section
variable {X : Cx}
def rSame (neg : Bool) : R2 := fun x y H Q => ∃ a b xs, x = .ref a ∧ y = .ref b ∧ (∀ x ∈ xs, ∃ c, x = V.ref c) ∧ ((H a = some (.tup xs) ∧ H b = some (.tup xs)) ∨ (H a = some (.lst xs) ∧ H b = some (.lst xs))) ∧ Q (.bl (!neg)) H
theorem at_same {A : Around} {s : Shared} {its : List Value} : ∀ j (h1 : j < its.toArray.size) (h2 : j < its.toArray.size), EqAt A s its.toArray[j] its.toArray[j] ((fun _ => true) j) := fun j h1 h2 => EqAt.same _
theorem all_true (n : Nat) : (List.range n).all (fun _ => true) = true := List.all_eq_true.mpr fun _ _ => rfl
theorem op_same (hu : X.A.units < cLine) : OpR X (compareOp .Eq) (rSame false) := by
  intro pins s σ H x y v u Q I rx ry h
  obtain ⟨a, b, xs, rfl, rfl, rr, k, q⟩ := h
  obtain rfl : v = Value.ref a := rx
  obtain rfl : u = Value.ref b := ry
  rcases k with ⟨ha, hb⟩ | ⟨ha, hb⟩
  · obtain ⟨i1, r1, ⟨o1, e1, c1, n1, d1⟩, _⟩ := I.tuple (SqT.of ha)
    obtain ⟨i2, r2, ⟨o2, e2, c2, n2, d2⟩, _⟩ := I.tuple (SqT.of hb)
    obtain rfl := same_vals rr r1 r2
    exact eq_tupleAt (e := fun _ => true) ⟨o1, e1, c1, n1, d1⟩ ⟨o2, e2, c2, n2, d2⟩ hu at_same (fin_bl I q (by rw [all_true]; simp))
  · obtain ⟨i1, r1, p1, _⟩ := I.list (SqL.of ha)
    obtain ⟨i2, r2, p2, _⟩ := I.list (SqL.of hb)
    obtain rfl := same_vals rr r1 r2
    exact eq_listAt (e := fun _ => true) p1.isList p2.isList rfl hu at_same (fin_bl I q (by rw [all_true]; rfl))
theorem op_sameNe (hu : X.A.units < cLine) : OpR X (compareOp .NotEq) (rSame true) := by
  intro pins s σ H x y v u Q I rx ry h
  obtain ⟨a, b, xs, rfl, rfl, rr, k, q⟩ := h
  obtain rfl : v = Value.ref a := rx
  obtain rfl : u = Value.ref b := ry
  rcases k with ⟨ha, hb⟩ | ⟨ha, hb⟩
  · obtain ⟨i1, r1, ⟨o1, e1, c1, n1, d1⟩, _⟩ := I.tuple (SqT.of ha)
    obtain ⟨i2, r2, ⟨o2, e2, c2, n2, d2⟩, _⟩ := I.tuple (SqT.of hb)
    obtain rfl := same_vals rr r1 r2
    exact RcNeAt.tuples (e := fun _ => true) ⟨o1, e1, c1, n1, d1⟩ ⟨o2, e2, c2, n2, d2⟩ hu at_same _ _ _ _ (fin_bl I q (by rw [all_true]; simp))
  · obtain ⟨i1, r1, p1, _⟩ := I.list (SqL.of ha)
    obtain ⟨i2, r2, p2, _⟩ := I.list (SqL.of hb)
    obtain rfl := same_vals rr r1 r2
    exact RcNeAt.lists (e := fun _ => true) p1.isList p2.isList rfl hu at_same _ _ _ _ (fin_bl I q (by rw [all_true]))
end
end SmX
end
section
set_option Elab.async false
set_option linter.all false
set_option maxRecDepth 100000
set_option maxHeartbeats 4100000
namespace XT
open PySem PySem.Spec PyProof.Rows L2 XS
/-! ### sum(lists, list) where there may be no list -/
section
variable {prog : Program} {w : World} {A : Around} {R : Result → Shared → Prop} {I S : Addr} {fp wr : List Addr} {P : Nat → Value → Prop} {St : Nat → Heap → Prop}
theorem sum_none (W : Walks prog w A.in1 I fp wr 0 P St) (nS : S ∉ fp) {s : Shared} {t : Addr} {c : Nat} (st : St 0 s.heap) (hS : s.heap.get? S = some (lsO [.ref t] c))
    (q : ∀ h' tk, (∀ x o, x ∉ wr → s.heap.get? x = some o → h'.get? x = some o) → R (.ok (.ret (.ref t))) { s with heap := h', toks := tk }) :
    codeAny (model prog w) A (.builtin "sum.loop" ⟨[.ref I, .ref S, rawInt 2, rawInt 0], []⟩) R s := by
  refine codeAny_builtin
        F.entry_sum_loop ?_
  rw [Around.under_plainId
        F.plain_sum_loop _]
  show wpAny _ _ (seqItems? (.ref S) >>= _) _ _ s
  refine wpAny_bind
        (wpAny_seqItems hS rfl ?_)
  show wpAny _ _ (tryCatch (pyNext (.ref I)) _ >>= _) _ _ s
  refine wpAny_bind (wpAny_tryCatch (W.done s _ _ st fun h' tk keep => ?_))
  exact wpAny_pure (q h' tk fun x o h1 h2 => keep x o h1 h2)
end
section
variable {prog : Program} {w : World} {A : Around} {E : Value → Shared → Prop} {s : Shared} {l b : Addr} {Q : Value → Shared → Prop} {cur : List Value} {cb : Nat}
theorem sum_nil (hh : A.handled = none) (hl : s.heap.IsList l #[]) (hb : s.heap.get? b = some (lsO cur cb))
    (h : ∀ h' tk, (∀ x o, s.heap.get? x = some o → h'.get? x = some o) → Q (.ref b) { s with heap := h', toks := tk }) :
    wpAny (model prog w) A (call (.builtin "sum") [.ref l, .ref b] []) Q E s := by
  have okA : argsOk "sum" ⟨[.ref l, .ref b], []⟩ := by unfold argsOk; kernel_rfl
  have ll := Heap.lt_size hl.choose_spec.1
  have lb := Heap.lt_size hb
  refine call_goes F.kind_sum F.plain_sum F.entry_sum okA ?_
  unfold Builtin.«sum»
  simp only [List.length_cons,
        List.length_nil]
  rw [if_neg (by decide)]
  refine wpAny_bind (wpAny_of_eq (show Builtin.Builtins.bindParams "sum" ["start"] 0 { pos := [Value.ref b] } = pure [some (.ref b)] from rfl) ?_)
  refine wpAny_bind
        (wpAny_pyIter_list hl ?_)
  refine wpAny_bind
        (wpAny_pure ?_)
  have hb2 : (s.heap.push { cls := .type "list_iterator", data := .fields #[.ref l, .int 0 0] }).get? b = some (lsO cur cb) := Heap.get?_push_of_some _ hb
  have ty : Shared.TypeIs { s with heap := s.heap.push { cls := .type "list_iterator", data := .fields #[.ref l, .int 0 0] } } (.ref b) "list" := ⟨_, hb2, rfl⟩
  simp only [List.forIn_cons,
        List.forIn_nil]
  refine wpAny_bind (wpAny_bind (wpAny_bind (wpAny_isInstance (T := "list") (b := false) ty PySem.F.sub_list_str ?_)))
  simp only [Bool.false_eq_true,
        if_false]
  refine wpAny_pure (wpAny_bind (wpAny_bind (wpAny_isInstance (T := "list") (b := false) ty PySem.F.sub_list_bytes ?_)))
  simp only [Bool.false_eq_true,
        if_false]
  refine wpAny_pure (wpAny_bind (wpAny_bind (wpAny_isInstance (T := "list") (b := false) ty PySem.F.sub_list_bytearray ?_)))
  simp only [Bool.false_eq_true,
        if_false]
  refine wpAny_pure
        (wpAny_pure ?_)
  refine wpAny_bind
        (wpAny_newObj_type ?_)
  have eS : (s.heap.push { cls := .type "list_iterator", data := .fields #[.ref l, .int 0 0] }).objs.size = s.heap.objs.size + 1 := Heap.size_push _ _
  have old : ∀ x o, s.heap.get? x = some o → ((s.heap.push { cls := .type "list_iterator", data := .fields #[.ref l, .int 0 0] }).push { cls := .type "list", data := .seq #[.ref b] }).get? x = some o := fun x o e => Heap.get?_push_of_some _ (Heap.get?_push_of_some _ e)
  have W := Walks.list (prog := prog) (w := w) (A := A.in1) (by exact hh) s.heap.objs.size l (Nat.ne_of_lt ll) #[]
  rw [eS]
  refine wpAny_pure ⟨_, rfl, plainId_quiet F.plain_sum_loop _, ?_⟩
  refine sum_none W (S := s.heap.objs.size + 1) (fun z => ?_) (s := { s with heap := (s.heap.push { cls := .type "list_iterator", data := .fields #[.ref l, .int 0 0] }).push { cls := .type "list", data := .seq #[.ref b] } }) (c := 0) ⟨?_, hl.at fun o e => old _ _ e⟩ ?_ fun h' tk keep => ⟨_, rfl, h h' tk fun x o e => keep x o (fun y => Nat.ne_of_lt (Heap.lt_size e) (List.mem_singleton.mp y)) (old x o e)⟩
  · rcases List.mem_cons.mp z with e | e
    · exact Nat.succ_ne_self _ e
    · have e2 := List.mem_singleton.mp e
      rw [← e2] at ll
      exact Nat.lt_irrefl _ (Nat.lt_of_succ_lt ll)
  · exact ⟨_, Heap.get?_push_of_some _ (Heap.get?_push_size _ rfl), rfl, rfl⟩
  · rw [← eS]
    exact
          Heap.get?_push_size _ rfl
end
section
variable {X : Cx}
/-- sum(lists, list): no list, or some, each on its own -/
def rSumLE : List V → Hp → VK → Prop := fun vs H Q => (∃ (a b : Addr) (zs : List V), vs = [V.ref a, V.ref b] ∧ H a = some (.lst []) ∧ H b = some (.lst zs) ∧ Q (.ref b) H) ∨ rSumL vs H Q
theorem cr_sumLE (hc : X.calm = true) : CallR X (.builtin "sum") rSumLE := by
  intro pins s σ
        H vs us Q I r h
  rcases h with ⟨a, b, zs, rfl, ha, hb, q⟩ | h
  · obtain ⟨u, us2, rfl, ru, r2⟩ : ∃ u us2, us = u :: us2 ∧ RelV (V.ref a) u ∧ Vals [V.ref b] us2 := by
      cases r with
      | cons x y => exact
            ⟨_, _, rfl, x, y⟩
    rw [Vals.ref1 r2]
    obtain rfl : u =
          Value.ref a := ru
    obtain ⟨_, ia, na, va, la, ea⟩ := I.lstM ha
    obtain ⟨_, ib, nb, vb, lb, eb⟩ := I.lstM hb
    have e0 : ia = [] := List.eq_nil_of_length_eq_zero (by rw [← la]; rfl)
    subst e0
    refine sum_nil (cur := ib) (cb := nb) (I.ok.hd hc) ⟨_, ea, rfl, _, rfl⟩ eb fun h' tk k => ?_
    exact ⟨.ref b, H, I.kept (t' := tk) k, rfl, q⟩
  · exact cr_sumL hc pins s σ H vs us Q I r h
end
end XT
end
section
set_option Elab.async false
set_option linter.all false
set_option maxRecDepth 100000
set_option maxHeartbeats 4100000
namespace LA
open PySem PySem.Spec PyProof.Rows L2 XS XT XK XW XZt
abbrev sPlaces : Stmt := top 13
abbrev sDAll : Stmt := top 20
abbrev sJds : Stmt := top 34
abbrev sJm : Stmt := top 35
/-- the places of a word, ascending -/
def pls (z y : Str) (n : Nat) : List Nat := (List.range n).filter fun k => decide (hit (cod y) (cod z) k)
def intL (l : List Nat) : List V := l.map fun (k : Nat) => V.int (k : Int)
theorem pls_succ (z y : Str) (n : Nat) : pls z y (n + 1) = pls z y n ++ (if hit (cod y) (cod z) n then [n] else []) := by
  unfold pls
  rw [List.range_succ, List.filter_append]
  congr 1
  rw [List.filter_cons]
  by_cases h : hit (cod y) (cod z) n
  · rw [if_pos h, if_pos (decide_eq_true h)]
    rfl
  · rw [if_neg h, if_neg (by rw [decide_eq_false h]; decide)]
    rfl
theorem pls_len (z y : Str) (n : Nat) : (pls z y n).length ≤ n := by
  unfold pls
  exact Nat.le_trans (List.length_filter_le _ _) (by rw [List.length_range]; exact Nat.le_refl _)
theorem pls_more {z y : Str} (y0 : 1 ≤ y.length) : ∀ {m n : Nat}, n ≤ m → z.length < n + y.length → pls z y m = pls z y n
  | m, n, h, l => by
    induction m with
    | zero =>
      have : n = 0 := by omega
      rw [this]
    | succ m ih =>
      by_cases e : n = m + 1
      · rw [e]
      · rw [pls_succ, ih (by omega), if_neg, List.append_nil]
        intro hh
        have := hit_le hh (by rw [len_cod]; exact y0)
        rw [len_cod, len_cod] at this
        omega
theorem sw_hit {z y : Str} {i : Nat} (y0 : 1 ≤ y.length) : (decide (i + y.length ≤ z.length) && Builtin.Str.subAt z y i) = decide (hit (cod y) (cod z) i) := by
  rw [← Bool.decide_coe (decide (i + y.length ≤ z.length) && Builtin.Str.subAt z y i)]
  refine decide_eq_decide.mpr ?_
  rw [Bool.and_eq_true, decide_eq_true_iff]
  exact hit_at y0
section
variable {P : Program} {w : World} {K : PySem.W.Frag} {mg : Str → Option Value} {base : Heap} {C : Nat → Addr}
theorem scPl : FnScope ["line", "word", "at"] ["line", "word"] (defScope sPlaces) := ⟨rfl, rfl, rfl, by decide +kernel, rfl, by decide +kernel, by decide +kernel⟩
def spPl : Sp := fun vs H Q _ => ∃ (z y : Str), vs = [.str z, .str y] ∧ z.length ≤ 1000 ∧ 1 ≤ y.length ∧ y.length ≤ 1000 ∧ ∀ (D : Addr) (H' : Hp), H' D = some (.lst (intL (pls z y z.length))) → Same H H' → Q (.ref D) H'
theorem ok_places {f : Addr} {fd : FuncData} (F : Fun K "places" "places" sPlaces f fd) (mL : mg "len" = none) (mR : mg "range" = none) : FnOk P w K mg base CX0 1 f fd ["line", "word"] spPl := by
  refine F.ok scPl (fun vs H Q E h => ?_) (fun cdv A outer s H vs Q E hr h => ?_)
  · obtain ⟨z, y, rfl, _⟩ := h
    rfl
  · obtain ⟨z, y, rfl, hz, y0, hy, q⟩ := h
    refine ⟨_, pss_one (by exact (ps_ret (pe_lc (own := [("at", 2)]) (g := gName 2) (tt := tB (tBM K "str" rSw (tVar 0) (tCons (tVar 1) (tCons (tVar 2) tNil)))) (te := tVar 2) rfl scPl.nd (pi_range1 rfl mR (pa_cons (pe_op op_add (pe_op op_sub (pe_callB call_len_str (by rfl) mL PySem.boot_len (pa_cons (pv 0) pa_nil)) (pe_callB call_len_str (by rfl) mL PySem.boot_len (pa_cons (pv 1) pa_nil))) pe_int) pa_nil))
        (blkOk_by (N := ["line", "word", "at"]) (sc := defScope sPlaces) (by decide +kernel))
        (fun _ _ _ _ _ => by exact (pg_name (i := 2) scPl.nd rfl (Or.inl rfl)))
        (fun _ _ _ _ _ => by exact (pts_one (pt_val (pe_bm PySem.F.plainAttrs_str PySem.F.slot_str_startswith PySem.F.type_str_startswith mt_sw3 (pv 0) (pa_cons (pv 1) (pa_cons (pv 2) pa_nil))))))
        (fun _ _ _ _ _ => by exact (pv 2))))), ?_⟩
    have zs : z.length ≤ sizeLine := Nat.le_trans hz (by decide)
    have ys : y.length ≤ sizeLine := Nat.le_trans hy (by decide)
    refine ⟨_, rfl, z, rfl, zs, _, rfl, y, rfl, ys, _, _, rfl, rfl, _, _, rfl, rfl, _, rfl, by omega, by omega, fun D nD => ?_⟩
    refine lc_range (fun i G => G D = some (.lst (intL (pls z y i))) ∧ Same H G) ⟨upd_same, same_upd nD⟩ (fun i G hi p => ?_) (fun G p => ?_)
    · obtain ⟨pD, pS⟩ := p
      refine ⟨rfl, ?_⟩
      refine ⟨_, rfl, rfl, _, rfl, _, rfl, z, y, i, rfl, (by rw [Int.zero_add]), _, rfl, ?_⟩
      rw [sw_hit y0]
      have e := pls_succ z y i
      have lenp : (intL (pls z y i)).length < sizeLine := by
        unfold intL
        rw [List.length_map]
        exact Nat.lt_of_le_of_lt (Nat.le_trans (pls_len z y i) (by omega : i ≤ 1001)) (by decide)
      have keep : ∀ o, Same H (upd G D o) := fun o b' o' e => by
        rw [upd_ne]
        · exact pS b' o' e
        · exact ne_of_none e nD
      by_cases h : hit (cod y) (cod z) i
      · rw [decide_eq_true h]
        refine iteT ⟨_, rfl, _, pD, lenp, ?_, keep _⟩
        rw [e, if_pos h]
        unfold intL
        rw [List.map_append, Int.zero_add]
        exact upd_same
      · rw [decide_eq_false h]
        refine iteF ⟨?_, pS⟩
        rw [e, if_neg h, List.append_nil]
        exact pD
    · obtain ⟨pD, pS⟩ := p
      refine q D G ?_ pS
      rw [pD]
      congr 3
      by_cases h : y.length ≤ z.length
      · have en : ((z.length : Int) - (y.length : Int) + 1).toNat = z.length - y.length + 1 := by omega
        rw [en]
        exact (pls_more y0 (by omega) (by omega)).symm
      · have en : ((z.length : Int) - (y.length : Int) + 1).toNat = 0 := by omega
        rw [en]
        exact (pls_more y0 (Nat.zero_le _) (by omega)).symm
/-- what changes make of a line, one after the other -/
def doneL (chs : List Ch) (z : Str) : Str := chs.foldl (fun z c => c.done z) z
end
end LA
end
section
set_option Elab.async false
set_option linter.all false
set_option maxRecDepth 100000
set_option maxHeartbeats 4100000
namespace LA
open PySem PySem.Spec PyProof.Rows L2 XS XT XK XW XZt
/-! ### lists that belong together; how long a line becomes -/
def Prs (R : Ch → V → Prop) (chs : List Ch) (us : List V) : Prop := us.length = chs.length ∧ ∀ (i : Nat) (c : Ch) (u : V), chs[i]? = some c → us[i]? = some u → R c u
theorem prs_nil {R : Ch → V → Prop} : Prs R [] [] := ⟨rfl, fun i c u h => by simp at h⟩
theorem prs_snoc {R : Ch → V → Prop} {chs : List Ch} {us : List V} {c : Ch} {u : V} (p : Prs R chs us) (h : R c u) : Prs R (chs ++ [c]) (us ++ [u]) := by
  refine ⟨by rw [List.length_append, List.length_append, p.1]; rfl, fun i c' u' hc hu => ?_⟩
  by_cases l : i < chs.length
  · rw [List.getElem?_append_left l] at hc
    rw [List.getElem?_append_left (by rw [p.1]; exact l)] at hu
    exact p.2 i c' u' hc hu
  · rw [List.getElem?_append_right (by omega)] at hc
    rw [List.getElem?_append_right (by rw [p.1]; omega)] at hu
    have e : i - chs.length = 0 := by
      by_cases z : i - chs.length = 0
      · exact z
      · obtain ⟨k, hk⟩ : ∃ k, i - chs.length = k + 1 := ⟨i - chs.length - 1, by omega⟩
        rw [hk] at hc
        simp at hc
    have e2 : i - us.length = 0 := by rw [p.1]; exact e
    rw [e] at hc
    rw [e2] at hu
    cases hc
    cases hu
    exact h
theorem Prs.imp {R S : Ch → V → Prop} {chs : List Ch} {us : List V} (p : Prs R chs us) (h : ∀ c u, c ∈ chs → R c u → S c u) : Prs S chs us := ⟨p.1, fun i c u hc hu => h c u (List.mem_of_getElem? hc) (p.2 i c u hc hu)⟩
theorem Prs.at {R : Ch → V → Prop} {chs : List Ch} {us : List V} (p : Prs R chs us) {i : Nat} {u : V} (h : us[i]? = some u) : ∃ c, chs[i]? = some c ∧ R c u := by
  have l : i < us.length := (List.getElem?_eq_some_iff.mp h).1
  have l2 : i < chs.length := by rw [← p.1]; exact l
  exact ⟨chs[i], List.getElem?_eq_getElem l2, p.2 i _ u (List.getElem?_eq_getElem l2) h⟩
theorem replL_len {y z : List Nat} (y0 : 1 ≤ y.length) : ∀ (n : Nat) (l : List Nat), l.length ≤ n → (StrLaws.replL y z l).length ≤ l.length * max 1 z.length
  | 0, l, h => by
    have e : l = [] := List.length_eq_zero_iff.mp (by omega)
    subst e
    rw [StrLaws.replL_nil]
    exact Nat.zero_le _
  | n + 1, [], h => by
    rw [StrLaws.replL_nil]
    exact Nat.zero_le _
  | n + 1, c :: r, h => by
    have hl : r.length ≤ n := by simpa using h
    by_cases e : List.take y.length (c :: r) = y
    · have hn : y ≠ [] := fun q => by rw [q] at y0; exact absurd y0 (by decide)
      rw [StrLaws.replL_hit hn e, List.length_append]
      have ld : (List.drop y.length (c :: r)).length ≤ r.length := by
        rw [List.length_drop, List.length_cons]
        omega
      have ih := replL_len (z := z) y0 n (List.drop y.length (c :: r)) (by omega)
      have m1 : z.length ≤ max 1 z.length := Nat.le_max_right _ _
      have m2 : (List.drop y.length (c :: r)).length * max 1 z.length ≤ r.length * max 1 z.length := Nat.mul_le_mul_right _ ld
      rw [List.length_cons, Nat.succ_mul]
      omega
    · rw [StrLaws.replL_miss e, List.length_cons, List.length_cons, Nat.succ_mul]
      have ih := replL_len (z := z) y0 n r hl
      have m1 : 1 ≤ max 1 z.length := Nat.le_max_left _ _
      omega
theorem done_len {c : Ch} {z : Str} (ok : ChOk c) (w : Wd 2 c) (i5 : c.i < 5) : (c.done z).length ≤ 2 * z.length + 2 := by
  have wa : c.a.length ≤ 2 := by
    have := w.a
    omega
  have wb : c.b.length ≤ 2 := by
    have := w.b
    omega
  have y0 : c.i ≠ 2 → 1 ≤ c.a.length := fun h => by
    have h := ok.one h
    unfold shortB wordB at h
    rw [Bool.and_eq_true, Bool.and_eq_true] at h
    exact of_decide_eq_true h.1.2
  obtain ⟨i, a, b⟩ := c
  have i5 : i < 5 := i5
  have wa : a.length ≤ 2 := wa
  have wb : b.length ≤ 2 := wb
  rcases (by omega : i = 0 ∨ i = 1 ∨ i = 2 ∨ i = 3 ∨ i = 4) with rfl | rfl | rfl | rfl | rfl
  · have y0 : 1 ≤ a.length := y0 (show (0 : Nat) ≠ 2 by decide)
    show (replN 1 z a b).length ≤ _
    rcases StrLaws.occ_head z a 1 (Nat.le_refl _) with ⟨_, no⟩ | ⟨i, r, _, at_, no⟩
    · rw [repl1_none y0 fun i h => no i ((hit_at y0).mpr h)]
      omega
    · have e := repl1_some (z := b) y0 ((hit_at y0).mp at_) fun j hj h => no j hj ((hit_at y0).mpr h)
      have l := hit_le ((hit_at y0).mp at_) (by rw [len_cod]; exact y0)
      rw [len_cod, len_cod] at l
      rw [← len_cod, e, List.length_append, List.length_append, List.length_take, List.length_drop, len_cod, len_cod]
      omega
  · have y0 : 1 ≤ a.length := y0 (show (1 : Nat) ≠ 2 by decide)
    show (Txt.replace z a b).length ≤ _
    have e : cod (Txt.replace z a b) = _ := StrLaws.replace_list y0
    have l := replL_len (y := cod a) (z := cod b) (by rw [len_cod]; exact y0) (cod z).length (cod z) (Nat.le_refl _)
    have e : cod (Txt.replace z a b) = StrLaws.replL (cod a) (cod b) (cod z) := e
    rw [← len_cod, e]
    rw [len_cod, len_cod] at l
    have m : z.length * max 1 b.length ≤ z.length * 2 := Nat.mul_le_mul_left _ (by omega)
    omega
  · have ej : cod (Txt.join "" (((cod z).map (swc (cod a) (cod b))).map sg)) = (cod z).map (swc (cod a) (cod b)) := join_sg _
    show (Txt.join "" (((cod z).map (swc (cod a) (cod b))).map sg)).length ≤ _
    rw [← len_cod, ej, List.length_map, len_cod]
    omega
  · show (a ++ z).length ≤ _
    rw [len_add]
    omega
  · show (z ++ a).length ≤ _
    rw [len_add]
    omega
theorem doneL_snoc (chs : List Ch) (c : Ch) (z : Str) : doneL (chs ++ [c]) z = c.done (doneL chs z) := by
  unfold doneL
  rw [List.foldl_append]
  rfl
theorem take_snoc {α : Type} {l : List α} {i : Nat} {x : α} (h : l[i]? = some x) : l.take (i + 1) = l.take i ++ [x] := by
  rw [List.take_succ, h]
  rfl
/-- how long after so many changes -/
theorem pow_step {i l : Nat} (h : l + 2 ≤ 16 * 2 ^ i) : 2 * l + 2 + 2 ≤ 16 * 2 ^ (i + 1) := by
  rw [Nat.pow_succ]
  omega
theorem pow_small {i : Nat} (h : i ≤ 4) : 16 * 2 ^ i ≤ 256 := by
  rcases (by omega : i = 0 ∨ i = 1 ∨ i = 2 ∨ i = 3 ∨ i = 4) with rfl | rfl | rfl | rfl | rfl <;> decide
section
variable {P : Program} {w : World} {K : PySem.W.Frag} {mg : Str → Option Value} {base : Heap} {C : Nat → Addr}
/-- a method of the five classes -/
structure MetD (P : Program) (w : World) (K : PySem.W.Frag) (mg : Str → Option Value) (base : Heap) (C : Addr) (m : Str) (sp : Sp) (f : Addr) (fd : FuncData) : Prop where
  m : Meth K C m f
  ok : FnOk P w K mg base CX0 1 f fd ["self", "line"] sp
  b : Binds K fd ["self", "line"] []
structure ChD (P : Program) (w : World) (K : PySem.W.Frag) (mg : Str → Option Value) (base : Heap) (C : Nat → Addr) (h : Nat → Addr) (fh : Nat → FuncData) : Prop where
  cls : ∀ i, i < 5 → Cls K (C i)
  d : ∀ i : Fin 5, MetD P w K mg base (C i) "done" (spDone C i) (h i) (fh i)
theorem flds_no {c : Ch} : (flds c).lookup ("done" : Str) = none := by
  obtain ⟨i, a, b⟩ := c
  match i with
  | 0 => rfl
  | 1 => rfl
  | 2 => rfl
  | _ + 3 => rfl
theorem scDAll : FnScope ["changes", "line", "change"] ["changes", "line"] (defScope sDAll) := ⟨rfl, rfl, rfl, by decide +kernel, rfl, by decide +kernel, by decide +kernel⟩
def GoodCh (c : Ch) : Prop := ChOk c ∧ Wd 2 c
def spDAll (K : PySem.W.Frag) (C : Nat → Addr) (lst : Bool) : Sp := fun vs H Q _ => ∃ (L : Addr) (chs : List Ch) (us : List V) (z : Str), vs = [.ref L, .str z] ∧ (if lst = true then SqL K H L us else SqT K H L us) ∧ (∀ H', Same H H' → (if lst = true then SqL K H' L us else SqT K H' L us)) ∧ Prs (CA C H) chs us ∧ (∀ c ∈ chs, GoodCh c) ∧ (∃ j, z.length + 2 ≤ 16 * 2 ^ j ∧ j + chs.length ≤ 4) ∧
  ∀ H', Same H H' → Q (.str (doneL chs z)) H'
theorem ok_DAll {f : Addr} {fd : FuncData} {h : Nat → Addr} {fh : Nat → FuncData} (lst : Bool) (F : Fun K "done_all" "done_all" sDAll f fd) (Z : ChD P w K mg base C h fh) : FnOk P w K mg base CX0 2 f fd ["changes", "line"] (spDAll K C lst) := by
  refine F.ok scDAll (fun vs H Q E h => ?_) (fun cdv A outer s H vs Q E hr h => ?_)
  · obtain ⟨L, chs, us, z, rfl, _⟩ := h
    rfl
  · obtain ⟨L, chs, us, z, rfl, hL, hLs, pr, good, ⟨j0, hz, few⟩, q⟩ := h
    have stepR : ∀ {D : Ends} {σ : L2.St} (i : Nat) (x : V) (G : Hp), us[i]? = some x → Same H G → (doneL (chs.take i) z).length + 2 ≤ 16 * 2 ^ (j0 + i) →
        (∀ G', Same H G' → (doneL (chs.take (i + 1)) z).length + 2 ≤ 16 * 2 ^ (j0 + i + 1) → D.nx [some (.ref L), some (.str (doneL (chs.take (i + 1)) z)), some x] G') →
        ∃ j : Fin 5, tMethA (C j) "done" (spDone C j) [] (fun _ _ _ => False) (tVar 2) (tCons (tVar 1) tNil) [some (.ref L), some (.str (doneL (chs.take i) z)), some x] G fun v G' => D.nx ([some (.ref L), some v, some x]) G' := by
      intro D σ i x G hx sG hb hD
      obtain ⟨c, hc, ca⟩ := pr.at hx
      have cg := ca.same sG
      obtain ⟨xa, xd, ex, ins⟩ := cg.ins
      subst ex
      have m := List.mem_of_getElem? hc
      have ic : i < chs.length := (List.getElem?_eq_some_iff.mp hc).1
      have p4 := pow_small (show j0 + i ≤ 4 by omega)
      refine ⟨⟨c.i, cg.1⟩, _, rfl, xa, xd, _, rfl, ins, flds_no, _, rfl, c, _, _, rfl, cg, rfl, (good c m).1, by omega, fun G' s' => ?_⟩
      have e : doneL (chs.take (i + 1)) z = c.done (doneL (chs.take i) z) := by rw [take_snoc hc, doneL_snoc]
      rw [← e]
      refine hD G' (sG.trans s') ?_
      rw [e]
      have l := done_len (z := doneL (chs.take i) z) (good c m).1 (good c m).2 cg.1
      have := pow_step hb
      omega
    have hall : doneL (chs.take us.length) z = doneL chs z := by rw [pr.1, List.take_length]
    cases lst with
    | true =>
      refine ⟨_, pss_cons (by exact (ps_for PassesOwn.never rfl (pi_list (pv 0)) (pg_name (i := 2) scDAll.nd rfl (Or.inl rfl)) (pss_one (by exact (ps_set (i := 1) scDAll.nd rfl (.inl rfl) (pe_ex fun i : Fin 5 => pe_methA (pv 2) (Z.cls i i.isLt) (Z.d i).m (Z.d i).ok hr (Z.d i).b .nil pass0 (pa_cons (pv 1) pa_nil))))))) (pss_one (by exact (ps_ret (pv 1)))), ?_⟩
      refine ⟨_, rfl, L, rfl, ⟨us, hL⟩, for_list (K := K) (a := L) (xs := us) (fun i σ G => ∃ x2 : Option V, σ = [some (.ref L), some (.str (doneL (chs.take i) z)), x2] ∧ Same H G ∧ (doneL (chs.take i) z).length + 2 ≤ 16 * 2 ^ (j0 + i)) ⟨_, rfl, fun _ _ e => e, hz⟩ (fun i σ G _ p => by obtain ⟨_, _, s, _⟩ := p; exact hLs _ s) (fun i x σ G hx p => ?_) (fun σ G p => ?_)⟩
      · obtain ⟨x2, rfl, sG, hb⟩ := p
        exact stepR (D := { nx := fun σ G => ∃ x2 : Option V, σ = [some (.ref L), some (.str (doneL (chs.take (i + 1)) z)), x2] ∧ Same H G ∧ (doneL (chs.take (i + 1)) z).length + 2 ≤ 16 * 2 ^ (j0 + i + 1), rt := fun _ _ => True, bk := fun _ _ => True, ct := fun _ _ => True }) (σ := []) i x G hx sG hb fun G' s' l => ⟨_, rfl, s', l⟩
      · obtain ⟨x2, rfl, sG, hb⟩ := p
        refine ⟨_, rfl, ?_⟩
        rw [hall]
        exact q G sG
    | false =>
      refine ⟨_, pss_cons (by exact (ps_for PassesOwn.never rfl (pi_tup (pv 0)) (pg_name (i := 2) scDAll.nd rfl (Or.inl rfl)) (pss_one (by exact (ps_set (i := 1) scDAll.nd rfl (.inl rfl) (pe_ex fun i : Fin 5 => pe_methA (pv 2) (Z.cls i i.isLt) (Z.d i).m (Z.d i).ok hr (Z.d i).b .nil pass0 (pa_cons (pv 1) pa_nil))))))) (pss_one (by exact (ps_ret (pv 1)))), ?_⟩
      refine ⟨_, rfl, L, rfl, ⟨us, hL⟩, for_tup (K := K) (a := L) (xs := us) (fun i σ G => ∃ x2 : Option V, σ = [some (.ref L), some (.str (doneL (chs.take i) z)), x2] ∧ Same H G ∧ (doneL (chs.take i) z).length + 2 ≤ 16 * 2 ^ (j0 + i)) ⟨_, rfl, fun _ _ e => e, hz⟩ (fun i σ G _ p => by obtain ⟨_, _, s, _⟩ := p; exact hLs _ s) (fun i x σ G hx p => ?_) (fun σ G p => ?_)⟩
      · obtain ⟨x2, rfl, sG, hb⟩ := p
        exact stepR (D := { nx := fun σ G => ∃ x2 : Option V, σ = [some (.ref L), some (.str (doneL (chs.take (i + 1)) z)), x2] ∧ Same H G ∧ (doneL (chs.take (i + 1)) z).length + 2 ≤ 16 * 2 ^ (j0 + i + 1), rt := fun _ _ => True, bk := fun _ _ => True, ct := fun _ _ => True }) (σ := []) i x G hx sG hb fun G' s' l => ⟨_, rfl, s', l⟩
      · obtain ⟨x2, rfl, sG, hb⟩ := p
        refine ⟨_, rfl, ?_⟩
        rw [hall]
        exact q G sG
end
end LA
end
section
set_option Elab.async false
set_option linter.all false
set_option maxRecDepth 100000
set_option maxHeartbeats 4100000
namespace LA
open PySem PySem.Spec PyProof.Rows L2 XS XT XK XW XZt
section
variable {P : Program} {w : World} {K : PySem.W.Frag} {mg : Str → Option Value} {base : Heap} {C : Nat → Addr}
/-! deeds, and their changes -/
def spDeedB : Sp := fun vs H Q _ => ∃ (d c : Addr) (n : Int) (ns : List Int) (z : Str) (b : Int), vs = [.ref d, .str z, .int b] ∧ PenAt H d c n ns ∧ n + 20 < 1000000 ∧ Sgn z ∧ 1 ≤ b ∧ b ≤ 8 ∧
  ∀ (v : V) (ch : Ch) (H' : Hp), DA H' ch v → ChOk ch → Wd b ch → PenAt H' d c (n + 20) ns → But d H H' → Q v H'
theorem deedB {f : Addr} {fd : FuncData} (F : FnRaw P w K mg base CX0 4 f fd ["_law_pen_here", "_law_signs_here", "_law_wide"] spDeedW) : FnOk P w K mg base CX0 4 f fd ["_law_pen_here", "_law_signs_here", "_law_wide"] spDeedB :=
  F.ok (fun vs H Q E h => by
    obtain ⟨d, c, n, ns, z, b, rfl, _⟩ := h
    rfl) fun vs us s H Q E rv h => by
    obtain ⟨d, c, n, ns, z, b, e, pen, hn, sz, b1, b8, q⟩ := h
    exact ⟨d, c, n, ns, z, b, e, pen, hn, sz, b1, b8, fun v u ch s' H' r k hd ok wd pe bb => q v ch H' hd ok wd pe bb⟩
theorem DA.put {H : Hp} {D : Addr} {o o' : HO} {c : Ch} {v : V} (h : DA H c v) (hD : H D = some o) (no : (∀ xs, o ≠ .tup xs) ∧ ∀ q u, o ≠ .frz q u) : DA (upd H D o') c v := h.keep fun a o2 e k => by
  rw [upd_ne]
  · exact e
  · intro z
    subst z
    rw [hD] at e
    cases e
    rcases k with ⟨xs, e⟩ | ⟨q, xs, e⟩
    · exact no.1 _ e
    · exact no.2 _ _ e
theorem scJds : FnScope ["_law_pen_here", "_law_signs_here", "_law_most_deeds", "_law_wide", "_law_k"] ["_law_pen_here", "_law_signs_here", "_law_most_deeds", "_law_wide"] (defScope sJds) := ⟨rfl, rfl, rfl, by decide +kernel, rfl, by decide +kernel, by decide +kernel⟩
def spJds : Sp := fun vs H Q _ => ∃ (d c : Addr) (n : Int) (ns : List Int) (z : Str) (b m : Int), vs = [.ref d, .str z, .int m, .int b] ∧ PenAt H d c n ns ∧ n + 81 < 1000000 ∧ Sgn z ∧ 1 ≤ b ∧ b ≤ 8 ∧ 0 ≤ m ∧ m ≤ 4 ∧
  ∀ (D : Addr) (chs : List Ch) (us : List V) (H' : Hp), H' D = some (.lst us) → H D = none → Prs (DA H') chs us → (∀ c ∈ chs, ChOk c ∧ Wd b c) → (chs.length : Int) ≤ m → PenAt H' d c (n + 81) ns → But d H H' → Q (.ref D) H'
theorem ok_Jds {f fD fG : Addr} {fd dD dG : FuncData} (F : Fun K "_law_jdeeds" "_law_jdeeds" sJds f fd) (mR : mg "range" = none) (G : DrawAt P w K mg base fG dG) (M : CallOf P w K mg base 4 "_law_deed" ["_law_pen_here", "_law_signs_here", "_law_wide"] spDeedB fD dD) : FnOk P w K mg base CX0 5 f fd ["_law_pen_here", "_law_signs_here", "_law_most_deeds", "_law_wide"] spJds := by
  refine F.ok scJds (fun vs H Q E h => ?_) (fun cdv A outer s H vs Q E hr h => ?_)
  · obtain ⟨d, c, n, ns, z, b, m, rfl, _⟩ := h
    rfl
  · obtain ⟨d, c, n, ns, z, b, m, rfl, pen, hn, sz, b1, b8, m0, m4, q⟩ := h
    have hr1 : Room 1 _ := hr.mono (by decide)
    refine ⟨_, pss_one (by exact (ps_ret (pe_lc (own := [("_law_k", 4)]) (g := gName 4) (tt := tYes) (te := tCall spDeedB [] (fun _ _ _ => False) (tCons (tVar 0) (tCons (tVar 1) (tCons (tVar 3) tNil)))) rfl scJds.nd (pi_range1 rfl mR (pa_cons (pe_call G.ok hr1 rfl G.m G.k G.b .nil pass0 (pa_cons (pv 0) (pa_cons (pe_op op_add (pv 2) pe_int) pa_nil))) pa_nil))
        (blkOk_by (N := ["_law_pen_here", "_law_signs_here", "_law_most_deeds", "_law_wide", "_law_k"]) (sc := defScope sJds) (by decide +kernel))
        (fun _ _ _ _ _ => by exact (pg_name (i := 4) scJds.nd rfl (Or.inl rfl)))
        (fun _ _ _ _ _ => by exact pts_nil)
        (fun _ _ _ _ _ => by exact (pe_call M.ok hr rfl M.m M.k M.b .nil pass0 (pa_cons (pv 0) (pa_cons (pv 1) (pa_cons (pv 3) pa_nil)))))))), ?_⟩
    refine ⟨_, rfl, _, rfl, _, _, rfl, rfl, d, c, n, ns, m + 1, rfl, pen, by omega, by omega, by omega, fun r H1 r0 r1 pen1 b1' => ?_⟩
    refine ⟨r, rfl, by omega, by omega, fun D nD => ?_⟩
    obtain ⟨nDd, nDc⟩ := pen1.fresh nD
    have nH : H D = none := b1'.none nDd nD
    refine lc_range (fun i X => ∃ (chs : List Ch) (us : List V), X D = some (.lst us) ∧ Prs (DA X) chs us ∧ (∀ c ∈ chs, ChOk c ∧ Wd b c) ∧ chs.length = i ∧ PenAt X d c (n + 1 + 20 * i) ns ∧ But d H X) ⟨[], [], upd_same, prs_nil, (fun c hc => absurd hc (by simp)), rfl, (pen1.put nDd nDc).le (by omega), b1'.put nH⟩ (fun i X hi p => ?_) (fun X p => ?_)
    · obtain ⟨chs, us, hD, pr, good, len, pX, bX⟩ := p
      refine ⟨rfl, ?_⟩
      dsimp only [tYes]
      rw [if_pos rfl]
      refine ⟨_, rfl, _, rfl, _, rfl, d, c, n + 1 + 20 * i, ns, z, b, rfl, pX, by omega, sz, b1, b8, fun v ch X1 hda ok wd pen2 b2 => ?_⟩
      obtain ⟨kv, hd⟩ := pX.dict
      have hD1 := b2 _ _ hD nDd
      have no : (∀ xs, HO.lst us ≠ .tup xs) ∧ ∀ q u, HO.lst us ≠ .frz q u := ⟨fun xs z => (by cases z), fun q u z => (by cases z)⟩
      refine ⟨us, hD1, ?_, chs ++ [ch], us ++ [v], upd_same, prs_snoc (pr.imp fun c u _ h => (h.but b2 hd).put hD1 no) (hda.put hD1 no), ?_, ?_, ?_, (bX.trans b2).put nH⟩
      · rw [pr.1, len]
        exact Nat.lt_of_le_of_lt (by omega : i ≤ 100) (by decide)
      · intro c' hc'
        rcases List.mem_append.mp hc' with h | h
        · exact good c' h
        · rw [List.mem_singleton] at h
          subst h
          exact ⟨ok, wd⟩
      · rw [List.length_append, len]
        rfl
      · exact (pen2.put nDd nDc).le (by omega)
    · obtain ⟨chs, us, hD, pr, good, len, pX, bX⟩ := p
      exact q D chs us X hD nH pr good (by omega) (pX.le (by omega)) bX
theorem scJm : FnScope ["_law_deeds", "_law_deed_here"] ["_law_deeds"] (defScope sJm) := ⟨rfl, rfl, rfl, by decide +kernel, rfl, by decide +kernel, by decide +kernel⟩
def spJm (C : Nat → Addr) : Sp := fun vs H Q _ => ∃ (L : Addr) (chs : List Ch) (us : List V), vs = [.ref L] ∧ H L = some (.lst us) ∧ Prs (DA H) chs us ∧ (∀ c ∈ chs, ChOk c) ∧ chs.length ≤ 1000 ∧
  ∀ (R : Addr) (ws : List V) (H' : Hp), H' R = some (.lst ws) → Prs (CA C H') chs ws → H R = none → Same H H' → Q (.ref R) H'
theorem CA.put {H : Hp} {D : Addr} {o o' : HO} {c : Ch} {v : V} (h : CA C H c v) (hD : H D = some o) (no : (∀ φ, o ≠ .ext φ) ∧ ∀ C dx fs, o ≠ .ins C dx fs) : CA C (upd H D o') c v := h.keep fun a o2 e k => by
  rw [upd_ne]
  · exact e
  · intro z
    subst z
    rw [hD] at e
    cases e
    rcases k with ⟨φ, e⟩ | ⟨C, dx, fs, e⟩
    · exact no.1 _ e
    · exact no.2 _ _ _ e
theorem ok_Jm {f fMD : Addr} {fd dMD : FuncData} (F : Fun K "_law_jmade_deeds" "_law_jmade_deeds" sJm f fd) (MD : CallOf P w K mg base 8 "_law_made_deed" ["_law_deed_here"] (spMD C) fMD dMD) : FnOk P w K mg base CX0 9 f fd ["_law_deeds"] (spJm C) := by
  refine F.ok scJm (fun vs H Q E h => ?_) (fun cdv A outer s H vs Q E hr h => ?_)
  · obtain ⟨L, chs, us, rfl, _⟩ := h
    rfl
  · obtain ⟨L, chs, us, rfl, hL, pr, good, few, q⟩ := h
    refine ⟨_, pss_one (by exact (ps_ret (pe_lc (own := [("_law_deed_here", 1)]) (g := gName 1) (tt := tYes) (te := tCall (spMD C) [] (fun _ _ _ => False) (tCons (tVar 1) tNil)) rfl scJm.nd (pi_list (pv 0))
        (blkOk_by (N := ["_law_deeds", "_law_deed_here"]) (sc := defScope sJm) (by decide +kernel))
        (fun _ _ _ _ _ => by exact (pg_name (i := 1) scJm.nd rfl (Or.inl rfl)))
        (fun _ _ _ _ _ => by exact pts_nil)
        (fun _ _ _ _ _ => by exact (pe_call MD.ok hr rfl MD.m MD.k MD.b .nil pass0 (pa_cons (pv 1) pa_nil)))))), ?_⟩
    refine ⟨_, rfl, L, rfl, ⟨us, SqL.of hL⟩, fun D nD => ?_⟩
    refine lc_it (walk_list (xs := us)) (fun i Y => ∃ ws, Y D = some (.lst ws) ∧ Prs (CA C Y) (chs.take i) ws ∧ Same H Y) ⟨[], upd_same, prs_nil, same_upd nD⟩ (fun i Y _ p => by obtain ⟨_, _, _, s⟩ := p; exact SqL.of (s _ _ hL)) (fun i x Y Y' hi p yl => ?_) (fun Y p => ?_)
    · obtain ⟨ws, hD, pw, sY⟩ := p
      obtain ⟨rfl, hx⟩ := yl
      obtain ⟨ch, hch, hda⟩ := pr.at hx
      refine ⟨rfl, ?_⟩
      dsimp only [tYes]
      rw [if_pos rfl]
      have no : (∀ φ, HO.lst ws ≠ .ext φ) ∧ ∀ C dx fs, HO.lst ws ≠ .ins C dx fs := ⟨fun φ z => (by cases z), fun C dx fs z => (by cases z)⟩
      refine ⟨_, rfl, ch, x, rfl, hda.same sY, good ch (List.mem_of_getElem? hch), fun u Y1 hu s1 => ⟨_, s1 _ _ hD, ?_, ws ++ [u], upd_same, ?_, ?_⟩⟩
      · rw [pw.1, List.length_take]
        exact Nat.lt_of_le_of_lt (Nat.le_trans (Nat.min_le_right _ _) few) (by decide)
      · rw [take_snoc hch]
        exact prs_snoc (pw.imp fun c u _ h => (h.same s1).put (s1 _ _ hD) no) (hu.put (s1 _ _ hD) no)
      · intro b o e
        rw [upd_ne (ne_of_none e nD)]
        exact s1 _ _ (sY b o e)
    · obtain ⟨ws, hD, pw, sY⟩ := p
      rw [pr.1, List.take_length] at pw
      exact q D ws Y hD pw nD sY
end
end LA
end
section
set_option Elab.async false
set_option linter.all false
set_option maxRecDepth 100000
set_option maxHeartbeats 4100000
/-! expressions that are known to keep the frame -/
namespace XW
open PySem PySem.Spec PyProof.Rows L2 XD XK
structure PEK (X : Cx) (e : Expr) (t : TE) : Prop where
  run : ∀ (pins : List (Addr × Obj)) (s : Shared) (σ : L2.St) (H : Hp) (Q : VK), Inv X pins σ H s → t σ H Q →
    wpAny (model X.prog X.w) X.A (eval e X.env) (fun u s' => ∃ v H', Inv X pins σ H' s' ∧ RelV v u ∧ Kp X s s' ∧ Q v H') X.xe s
structure PAK (X : Cx) (es : List Expr) (t : TA) : Prop where
  run : ∀ (pos : Pos) (pins : List (Addr × Obj)) (s : Shared) (σ : L2.St) (H : Hp) (Q : List V → Hp → Prop), Inv X pins σ H s → t σ H Q →
    wpAny (model X.prog X.w) X.A (spliced (backTo pos (starEach es X.env))) (fun us s' => ∃ vs H', Inv X pins σ H' s' ∧ Vals vs us ∧ Kp X s s' ∧ Q vs H') X.xe s
section
variable {X : Cx} {a b c e o : Expr} {es : List Expr} {ta tb te to : TE} {pos p apos : Pos}
/-- as a reading of raw values -/
def tOfK (X : Cx) (t : TE) : TEW := fun s σ H Q => t σ H fun v H' => ∀ u s', RelV v u → Kp X s s' → Q v u s' H'
theorem PEK.pew {t : TE} (h : PEK X e t) : PEW X e (tOfK X t) := ⟨fun pins s σ H Q I q => thn (h.run pins s σ H _ I q) fun u s' ⟨v, H', I', r, k, z⟩ => ⟨v, H', I', r, z u s' r k⟩⟩
theorem pek_of {t : TEW} {t' : TE} (h : PEW X e t) (hh : ∀ s σ H Q, t' σ H Q → t s σ H fun v u s' H' => Kp X s s' ∧ Q v H') : PEK X e t' :=
  ⟨fun pins s σ H Q I q => thn (h.run pins s σ H _ I (hh s σ H Q q)) fun u s' ⟨v, H', I', r, k, z⟩ => ⟨v, H', I', r, k, z⟩⟩
theorem k_loc {i : Nat} {x : Str} (hN : X.N[i]? = some x) (hl : X.env.scope.names.lookup x = some .local) (hd : (x == ("__debug__" : Str)) = false := by decide) : PEK X (.Name x pos) (tVar i) :=
  pek_of (pew_loc hN hl hd) fun s σ H Q ⟨v, h, q⟩ => ⟨v, h, fun u r => ⟨Kp.refl, q⟩⟩
theorem k_str {c : Str} {j : Nat} : PEK X (.Constant (.str c) j pos) (tC (.str c)) := pek_of pew_str fun s σ H Q q => fun s' k _ => ⟨k, q⟩
theorem k_int {c : Int} {j : Nat} : PEK X (.Constant (.int c) j pos) (tC (.int c)) := pek_of pew_int fun s σ H Q q => fun t s' k _ => ⟨k, q⟩
theorem ka_nil : PAK X [] tNil := ⟨fun _ _ s _ H Q I h => Calls.spliced_nil ⟨[], H, I, .nil, Kp.refl, h⟩⟩
theorem ka_cons {t : TA} (ha : PEK X e te) (hr : PAK X es t) (hs : starEach (e :: es) X.env = (false, eval e X.env) :: starEach es X.env := by rfl) : PAK X (e :: es) (tCons te t) := by
  refine ⟨fun pos pins s σ H Q I h => ?_⟩
  rw [hs]
  show wpAny _ _ (spliced ((false, eval e X.env) :: backTo pos (starEach es X.env))) _ _ s
  refine Calls.spliced_cons (thn (ha.run pins s σ H _ I h) fun u s1 ⟨x, H1, I1, r1, k1, q1⟩ => ?_)
  exact thn (hr.run pos pins s1 σ H1 _ I1 q1) fun us s2 ⟨xs, H2, I2, r2, k2, q2⟩ => ⟨x :: xs, H2, I2, .cons r1 r2, k1.trans k2, q2⟩
/-- a written list -/
theorem k_lst {t : TA} (h : PAK X es t) : PEK X (.List es pos) (tLst t) := by
  refine ⟨fun pins s σ H Q I hq => ?_⟩
  refine wpAny_List_spliced (thn (h.run pos pins s σ H _ I hq) fun us s1 ⟨xs, H1, I1, r, kp, z, q⟩ => ⟨by rw [← r.length]; exact z, ?_⟩)
  have hf : H1 s1.heap.objs.size = none := I1.hok.fresh (Nat.le_refl _)
  have k : ∀ b u, s1.heap.get? b = some u → (s1.heap.push { cls := .type "list", data := .seq us.toArray }).get? b = some u := fun b u e => Heap.get?_push_of_some _ e
  have e := Heap.get?_push_size s1.heap (o := { cls := .type "list", data := .seq us.toArray }) rfl
  exact ⟨.ref s1.heap.objs.size, upd H1 s1.heap.objs.size (.lst xs), I1.laid (t' := s1.toks) k (Nat.le_refl _) ⟨z, us, 0, r, e⟩, rfl, kp.trans ⟨Nat.le_refl _, ns_kept k⟩, q _ hf⟩
/-- what a call leaves -/
theorem after_k {pins : List (Addr × Obj)} {σ : L2.St} {H : Hp} {s s' : Shared} {Q : VK} {u : Value} (I : Inv X pins σ H s) (hk : s.toks ≤ s'.toks) (h : CE X.stack X.prog X.w H s Q u s') : ∃ v H', Inv X pins σ H' s' ∧ RelV v u ∧ Kp X s s' ∧ Q v H' := by
  have fr : ∀ m, s.heap.Ns X.env.locals m → s'.heap.Ns X.env.locals m := by
    obtain ⟨v, H', _, _, un, _⟩ := h
    exact ns_un I un
  obtain ⟨v, H', J, r, q⟩ := I.after h
  exact ⟨v, H', J, r, ⟨hk, fr⟩, q⟩
theorem run_k {CX : CXT} {k : Nat} {f : Addr} {fd : FuncData} {ps : List Str} {sp : Sp} {E : XK} {pins : List (Addr × Obj)} {σ : L2.St} {H : Hp} {s : Shared} {Q : VK} {us : List Value} {vs : List V} (F : FnOk X.prog X.w X.K X.mg X.base CX k f fd ps sp) (hr : Room k X.A) (hb : Binds X.K fd ps []) (hx : Passes CX X E)
    (I : Inv X pins σ H s) (r : Vals vs us) (h : sp vs H Q E) : wpAny (model X.prog X.w) X.A (call (.ref f) us) (fun u s' => ∃ v H', Inv X pins σ H' s' ∧ RelV v u ∧ Kp X s s' ∧ Q v H') X.xe s := by
  have hl : (us ++ []).length = ps.length := by rw [List.append_nil, ← r.length]; exact F.len _ _ _ _ h
  have hb' := hb s us I.kIn hl
  rw [List.append_nil] at hb'
  refine wpAny_call (codeAny_mono (codeAny_toks_of (Nat.le_refl s.toks) (F.run X.A X.stack s H ⟨us, []⟩ us vs _ E hr I.env0 hb' r h)) fun r s' ⟨hk, hq⟩ => ?_)
  cases r with
  | error e => exact hx pins σ H s e s' I hq
  | ok fl =>
    cases fl with
    | ret u => exact after_k I hk hq
    | next => exact False.elim hq
    | brk => exact False.elim hq
    | cont => exact False.elim hq
theorem k_call {CX : CXT} {k : Nat} {f : Addr} {fd : FuncData} {ps : List Str} {sp : Sp} {E : XK} {x : Str} {t : TA} (F : FnOk X.prog X.w X.K X.mg X.base CX k f fd ps sp) (hr : Room k X.A) (hg : Gl X x) (hm : X.mg x = some (.ref f)) (hk : PySem.W.keepIn X.K (.ref f) = true) (hb : Binds X.K fd ps []) (hx : Passes CX X E)
    (ha : PAK X (e :: es) t) (hdb : (x == ("__debug__" : Str)) = false := by decide) (he : starEach (e :: es) X.env = (false, eval e X.env) :: starEach es X.env := by rfl) (hpl : (backTo pos (starEach es X.env)).any (·.1) = false := by rfl) :
    PEK X (.Call (.Name x p) (e :: es) [] pos) (tCall sp [] E t) := by
  refine ⟨fun pins s σ H Q I h => ?_⟩
  refine wpAny_Call_Name_kw (ld_glob I hg hm ?_ hdb)
  refine PySem.W.callWith_K (h₀ := X.base) I.ok.mod.kin hk (thn (ha.run pos pins s σ H _ I h) fun us s1 ⟨vs, H1, I1, r, kp, q⟩ => ⟨I1.kIn, ?_⟩) he hpl
  rw [List.append_nil] at q
  exact thn (run_k F hr hb hx I1 r q) fun u s2 ⟨v, H2, I2, r2, k2, q2⟩ => ⟨v, H2, I2, r2, kp.trans k2, q2⟩
theorem k_meth {CX : CXT} {k : Nat} {f C : Addr} {fd : FuncData} {ps : List Str} {sp : Sp} {E : XK} {m : Str} {t : TA} {pl : Sem Bool} (he : PEK X o ta) (c : Cls X.K C) (hm : Meth X.K C m f) (F : FnOk X.prog X.w X.K X.mg X.base CX k f fd ps sp) (hr : Room k X.A) (hb : Binds X.K fd ps []) (hx : Passes CX X E) (ha : PAK X (e :: es) t)
    (hst : starEach (e :: es) X.env = (false, eval e X.env) :: starEach es X.env := by rfl) (hpl : (backTo pos (starEach es X.env)).any (·.1) = false := by rfl)
    (ht : eval (.Call (.Attribute o m apos) (e :: es) [] pos) X.env = (do
      let ov ← eval o X.env
      standAt apos.atName
      let (f, first) ← holding [ov] (getMethod ov m pl)
      callWith pos f first (backTo pos (starEach (e :: es) X.env)) (backToKw pos (keywordEach [] X.env))) := by rfl) :
    PEK X (.Call (.Attribute o m apos) (e :: es) [] pos) (tMethA C m sp [] E ta t) := by
  refine ⟨fun pins s σ H Q I h => ?_⟩
  refine PySem.W.methodCall_KW (pl := pl) (thn (he.run pins s σ H _ I h) fun u s1 ⟨x, H1, I1, rx, kp, a, dx, fs, ex, ea, l, q⟩ => ?_) ht
  subst ex
  obtain rfl : u = Value.ref a := rx
  obtain ⟨Hd, Id, ed⟩ := ea.view I1
  refine getmeth_ok Id ed c hm l ?_
  refine PySem.W.callWith_K (first := [.ref a]) (h₀ := X.base) I.ok.mod.kin hm.kp (thn (ha.run pos pins s1 σ H1 _ I1 q) fun us s2 ⟨vs, H2, I2, r, k2, q2⟩ => ⟨I2.kIn, ?_⟩) hst hpl
  rw [List.append_nil] at q2
  exact thn (run_k (us := .ref a :: us) (vs := .ref a :: vs) F hr hb hx I2 (.cons rfl r) q2) fun u s3 ⟨v, H3, I3, r3, k3, q3⟩ => ⟨v, H3, I3, r3, (kp.trans k2).trans k3, q3⟩
end
end XW
end
section
set_option Elab.async false
set_option linter.all false
set_option maxRecDepth 100000
set_option maxHeartbeats 4100000
/-! operators, slices, makers that keep the frame -/
namespace XW
open PySem PySem.Spec PyProof.Rows L2 XD XK
def EPF (X : Cx) (pins : List (Addr × Obj)) (σ : L2.St) (Q : VK) (s : Shared) (u : Value) (s' : Shared) : Prop := ∃ v H', Inv X pins σ H' s' ∧ RelV v u ∧ (∀ m, s.heap.Ns X.env.locals m → s'.heap.Ns X.env.locals m) ∧ Q v H'
section
variable {X : Cx} {a b c e o : Expr} {es : List Expr} {ta tb te to : TE} {pos p apos p2 : Pos}
/-- an operator that keeps the frame -/
def OpK (X : Cx) (f : Value → Value → Sem Value) (r : R2) : Prop := ∀ (pins : List (Addr × Obj)) (s : Shared) (σ : L2.St) (H : Hp) (x y : V) (v u : Value) (Q : VK), Inv X pins σ H s → RelV x v → RelV y u → r x y H Q → wpAny (model X.prog X.w) X.A (f v u) (EPF X pins σ Q s) X.xe s
theorem epf_k {pins : List (Addr × Obj)} {σ : L2.St} {Q : VK} {s : Shared} {t : Sem Value} (h : wpAny (model X.prog X.w) X.A t (EPF X pins σ Q s) X.xe s) : wpAny (model X.prog X.w) X.A t (fun u s' => ∃ v H', Inv X pins σ H' s' ∧ RelV v u ∧ Kp X s s' ∧ Q v H') X.xe s :=
  wpAny_mono (PySem.wpAny_toks h) (fun u s' ⟨hk, v, H', I', r, fr, q⟩ => ⟨v, H', I', r, ⟨hk, fr⟩, q⟩) fun _ _ z => z.2
theorem k_op {op : Operator} {r : R2} (O : OpK X (binaryOp op) r) (ha : PEK X a ta) (hb : PEK X b tb) : PEK X (.BinOp a op b pos) (tOp r ta tb) := by
  refine ⟨fun pins s σ H Q I h => ?_⟩
  refine wpAny_BinOp (thn (ha.run pins s σ H _ I h) fun v s1 ⟨x, H1, I1, r1, k1, q1⟩ => thn (hb.run pins s1 σ H1 _ I1 q1) fun u s2 ⟨y, H2, I2, r2, k2, q2⟩ => ?_)
  exact thn (epf_k (O pins s2 σ H2 x y v u Q I2 r1 r2 q2)) fun w s3 ⟨z, H3, I3, r3, k3, q3⟩ => ⟨z, H3, I3, r3, (k1.trans k2).trans k3, q3⟩
theorem ok_add_str : OpK X (binaryOp .Add) (fun x y H Q => ∃ i j, x = .str i ∧ y = .str j ∧ i.length + j.length ≤ sizeLine ∧ Q (.str (i ++ j)) H) := by
  intro pins s σ H x y v u Q I rx ry h
  obtain ⟨i, j, rfl, rfl, l, q⟩ := h
  obtain ⟨t, rfl⟩ := rx
  obtain ⟨t', rfl⟩ := ry
  exact PySem.SB.add (fun t' k => ⟨.str (i ++ j), H, I.tok _, ⟨_, rfl⟩, fun _ h => h, q⟩) l
theorem ok_add_int : OpK X (binaryOp .Add) (fun x y H Q => ∃ i j : Int, x = .int i ∧ y = .int j ∧ Q (.int (i + j)) H) := by
  intro pins s σ H x y v u Q I rx ry h
  obtain ⟨i, j, rfl, rfl, q⟩ := h
  obtain ⟨t, rfl⟩ := rx
  obtain ⟨t', rfl⟩ := ry
  exact PySem.P.add_int ⟨.int (i + j), H, I.tok _, ⟨_, rfl⟩, fun _ h => h, q⟩
theorem ok_cat : OpK X (binaryOp .Add) rCat := by
  intro pins s σ H x y v u Q I rx ry h
  obtain ⟨l, b, xs, zs, rfl, rfl, hl, hb, n, q⟩ := h
  obtain rfl : v = Value.ref l := rx
  obtain rfl : u = Value.ref b := ry
  obtain ⟨z1, i1, n1, r1, e1⟩ := I.hok l _ hl
  obtain ⟨z2, i2, n2, r2, e2⟩ := I.hok b _ hb
  have l1 := r1.length
  have l2 := r2.length
  refine PySem.P.add_list (items := i1.toArray) (items2 := i2.toArray) (n := n1) (n2 := n2) e1 e2 ?_ (by rw [List.size_toArray, List.size_toArray]; omega)
  have hf : H s.heap.objs.size = none := I.hok.fresh (Nat.le_refl _)
  have k : ∀ b u, s.heap.get? b = some u → (s.heap.push { cls := .type "list", data := .seq (i1.toArray ++ i2.toArray) }).get? b = some u := fun b u e => Heap.get?_push_of_some _ e
  have e := Heap.get?_push_size s.heap (o := { cls := .type "list", data := .seq (i1.toArray ++ i2.toArray) }) rfl
  refine ⟨.ref s.heap.objs.size, upd H s.heap.objs.size (.lst (xs ++ zs)), I.laid (t' := s.toks) k (Nat.le_refl _) ⟨?_, i1 ++ i2, 0, r1.append r2, ?_⟩, rfl, ns_kept k, q _ hf⟩
  · rw [List.length_append]
    exact n
  · rw [e]
    simp
/-- text != text, number != number: a test -/
structure PTK (X : Cx) (e : Expr) (t : TT) : Prop where
  run : ∀ (pins : List (Addr × Obj)) (s : Shared) (σ : L2.St) (H : Hp) (Q : Bool → Hp → Prop), Inv X pins σ H s → t σ H Q →
    wpAny (model X.prog X.w) X.A (isTrue e X.env (eval e X.env)) (fun b s' => ∃ H', Inv X pins σ H' s' ∧ Kp X s s' ∧ Q b H') X.xe s
def tOfT (X : Cx) (t : TT) : Shared → L2.St → Hp → (Bool → Shared → Hp → Prop) → Prop := fun s σ H Q => t σ H fun b H' => ∀ s', Kp X s s' → Q b s' H'
theorem PTK.ptw {t : TT} (h : PTK X e t) : PTW X e (tOfT X t) := ⟨fun pins s σ H Q I q => thn (h.run pins s σ H _ I q) fun b s' ⟨H', I', k, z⟩ => ⟨H', I', z s' k⟩⟩
theorem kt_cmp {op : CmpOp} {r : R2} (O : OpK X (compareOp op) r) (ha : PEK X a ta) (hb : PEK X b tb) (hm : behindInMarks op b = false) : PTK X (.Compare a [op] [b] pos) (tTest (tOp r ta tb)) := by
  refine ⟨fun pins s σ H Q I h => ?_⟩
  refine wpAny_isTrue_Compare1 (thn (ha.run pins s σ H _ I h) fun v s1 ⟨x, H1, I1, r1, k1, q1⟩ => thn (hb.run pins s1 σ H1 _ I1 q1) fun u s2 ⟨y, H2, I2, r2, k2, q2⟩ => ?_) hm
  refine thn (epf_k (O pins s2 σ H2 x y v u _ I2 r1 r2 q2)) fun w s3 ⟨z, H3, I3, r3, k3, k, ez, q3⟩ => ?_
  subst ez
  obtain rfl : w = Value.bool k := r3
  exact wpAny_truthy_bool ⟨H3, I3, (k1.trans k2).trans k3, q3⟩
theorem ok_ne_str : OpK X (compareOp .NotEq) (fun x y H Q => ∃ i j : Str, x = .str i ∧ y = .str j ∧ Q (.bl (!decide (i = j))) H) := by
  intro pins s σ H x y v u Q I rx ry h
  obtain ⟨i, j, rfl, rfl, q⟩ := h
  obtain ⟨t, rfl⟩ := rx
  obtain ⟨t', rfl⟩ := ry
  refine PySem.P.ne_str ⟨.bl (!decide (i = j)), H, I, ?_, fun _ h => h, q⟩
  show Value.bool _ = Value.bool _
  congr 1
  by_cases e : i = j
  · subst e
    simp
  · rw [decide_eq_false e]
    have : i.cps.toList ≠ j.cps.toList := fun z => e (by
      obtain ⟨i⟩ := i
      obtain ⟨j⟩ := j
      exact congrArg Str.mk (Array.toList_inj.mp z))
    simpa using this
theorem ok_ne_int : OpK X (compareOp .NotEq) (fun x y H Q => ∃ i j : Int, x = .int i ∧ y = .int j ∧ Q (.bl (!decide (i = j))) H) := by
  intro pins s σ H x y v u Q I rx ry h
  obtain ⟨i, j, rfl, rfl, q⟩ := h
  obtain ⟨t, rfl⟩ := rx
  obtain ⟨t', rfl⟩ := ry
  refine PySem.P.ne_int ⟨.bl (!decide (i = j)), H, I, ?_, fun _ h => h, q⟩
  show Value.bool _ = Value.bool _
  congr 1
/-- parts of a slice -/
structure POK (X : Cx) (e : Option Expr) (t : TO) : Prop where
  run : ∀ (pins : List (Addr × Obj)) (s : Shared) (σ : L2.St) (H : Hp) (Q : Option Int → Hp → Prop), Inv X pins σ H s → t σ H Q →
    wpAny (model X.prog X.w) X.A (evalPart e X.env) (fun u s' => ∃ o H', Inv X pins σ H' s' ∧ IsPart u o ∧ Kp X s s' ∧ Q o H') X.xe s
theorem ko_none : POK X none tNoPart := ⟨fun pins s σ H Q I h => by
  rw [evalPart_none]
  exact wpAny_pure ⟨none, H, I, .none, Kp.refl, h⟩⟩
theorem ko_some (he : PEK X e te) : POK X (some e) (tPart te) := ⟨fun pins s σ H Q I h => by
  rw [evalPart_some]
  refine thn (he.run pins s σ H _ I h) fun u s' ⟨v, H', I', r, k, i, ev, q⟩ => ?_
  subst ev
  obtain ⟨t, rfl⟩ := r
  exact ⟨some i, H', I', .int i t, k, q⟩⟩
theorem k_slice {lo hi : Option Expr} {tl th : TO} (he : PEK X e te) (hl : POK X lo tl) (hu : POK X hi th) : PEK X (.Subscript e (.Slice lo hi none p2) pos) (tSl rSlS te tl th) := by
  refine ⟨fun pins s σ H Q I h => ?_⟩
  refine Subscript_ (thn (he.run pins s σ H _ I h) fun v s1 ⟨x, H1, I1, r1, k1, q1⟩ => wpAny_Slice (thn (hl.run pins s1 σ H1 _ I1 q1) fun vl s2 ⟨l, H2, I2, pl, k2, q2⟩ => thn (hu.run pins s2 σ H2 _ I2 q2) fun vu s3 ⟨u, H3, I3, pu, k3, q3⟩ => ?_))
  rw [evalPart_none]
  refine wpAny_pure ?_
  have kk : ∀ b ob, s3.heap.get? b = some ob → (s3.heap.push { cls := .type "slice", data := .fields #[vl, vu, .none] }).get? b = some ob := fun b ob q => Heap.get?_push_of_some _ q
  have I4 := I3.kept (t' := s3.toks) kk
  obtain ⟨T, id, hT, ht, hg⟩ := sl_str pins _ σ H3 x v vl vu l u s3.heap.objs.size Q I4 r1 (Heap.IsSliceOf.new s3.1 vl vu Value.none) pl pu q3
  obtain ⟨z, rfl, hz, q4⟩ := q3
  obtain ⟨t, rfl⟩ := r1
  obtain ⟨l', rfl, el⟩ := L2.IsPart.raw pl
  obtain ⟨u', rfl, eu⟩ := L2.IsPart.raw pu
  have fr : wpAny (model X.prog X.w) X.A (getItem (.str z t) (.ref s3.heap.objs.size)) (fun _ s' => ∀ m, s3.heap.Ns X.env.locals m → s'.heap.Ns X.env.locals m) X.xe { s3 with heap := s3.heap.push { cls := .type "slice", data := .fields #[partValue l', partValue u', .none] } } := by
    refine wpAny_getItem_str_slice (l := l') (u := u') (st := none) (Heap.IsSliceOf.new s3.1 _ _ Value.none) rfl ?_
    have hl : (cutS z (l'.map (·.1)) (u'.map (·.1))).length ≤ sizeLine := Nat.le_trans (cutS_length z _ _) hz
    rw [← sliceText_cut] at hl
    unfold sliceMade
    unfold StrLaws.sliceText at hl
    split
    · exact fun m h => ns_kept kk m h
    · rename_i c
      split at hl
      · rename_i c2
        exact absurd c2 c
      · exact ⟨hl, fun m h => ns_kept kk m h⟩
  have hg2 := wpAny_and hg fr
  refine tail_any ht hT (wpAny_mono (PySem.wpAny_toks hg2) (fun w s' ⟨hk, ⟨v', H', I', r', q'⟩, f'⟩ => ⟨v', H', I', r', (k1.trans k2).trans (k3.trans ⟨hk, f'⟩), q'⟩) fun _ _ z => z.2.1) rfl
end
end XW
end
section
set_option Elab.async false
set_option linter.all false
set_option maxRecDepth 100000
set_option maxHeartbeats 4100000
/-! calls of builtins, makers, tests, loops that keep the frame -/
namespace XW
open PySem PySem.Spec PyProof.Rows L2 XD XK
section
variable {X : Cx} {a b c e o : Expr} {es : List Expr} {ta tb te to : TE} {t : TA} {pos p apos p2 : Pos} {x : Str}
def CallK (X : Cx) (f : Value) (r : List V → Hp → VK → Prop) : Prop := ∀ (pins : List (Addr × Obj)) (s : Shared) (σ : L2.St) (H : Hp) (vs : List V) (us : List Value) (Q : VK), Inv X pins σ H s → Vals vs us → r vs H Q → wpAny (model X.prog X.w) X.A (call f us) (EPF X pins σ Q s) X.xe s
theorem k_callB {id : String} {r : List V → Hp → VK → Prop} (hc : CallK X (.builtin id) r) (hg : Gl X x) (hm : X.mg x = none) (hv : bootBuiltins x = some (.builtin id)) (ha : PAK X (e :: es) t) (hn : x ≠ ("__name__" : Str) := by decide) (hdb : (x == ("__debug__" : Str)) = false := by decide)
    (he : starEach (e :: es) X.env = (false, eval e X.env) :: starEach es X.env := by rfl) (hpl : (backTo pos (starEach es X.env)).any (·.1) = false := by rfl) : PEK X (.Call (.Name x p) (e :: es) [] pos) (tCB r t) :=
  ⟨fun pins s σ H Q I h => wpAny_Call_Name_kw (ld_blt I hg hm hv (callWith_builtin1 (thn (ha.run pos pins s σ H _ I h) fun us s1 ⟨vs, H1, I1, r1, k1, q1⟩ =>
    thn (epf_k (hc pins s1 σ H1 vs us Q I1 r1 q1)) fun u s2 ⟨v, H2, I2, r2, k2, q2⟩ => ⟨v, H2, I2, r2, k1.trans k2, q2⟩) he hpl) hn hdb)⟩
theorem k_callTy {T : String} {r : List V → Hp → VK → Prop} (hc : CallK X (.type T) r) (hg : Gl X x) (hm : X.mg x = none) (hv : bootBuiltins x = some (.type T)) (ha : PAK X (e :: es) t) (hn : x ≠ ("__name__" : Str) := by decide) (hdb : (x == ("__debug__" : Str)) = false := by decide)
    (he : starEach (e :: es) X.env = (false, eval e X.env) :: starEach es X.env := by rfl) (hpl : (backTo pos (starEach es X.env)).any (·.1) = false := by rfl) : PEK X (.Call (.Name x p) (e :: es) [] pos) (tCB r t) :=
  ⟨fun pins s σ H Q I h => wpAny_Call_Name_kw (ld_blt I hg hm hv (callWith_type1 (thn (ha.run pos pins s σ H _ I h) fun us s1 ⟨vs, H1, I1, r1, k1, q1⟩ =>
    thn (epf_k (hc pins s1 σ H1 vs us Q I1 r1 q1)) fun u s2 ⟨v, H2, I2, r2, k2, q2⟩ => ⟨v, H2, I2, r2, k1.trans k2, q2⟩) he hpl) hn hdb)⟩
theorem ck_len_str : CallK X (.builtin "len") fun xs H Q => ∃ z, xs = [V.str z] ∧ z.length ≤ sizeLine ∧ Q (V.int z.length) H := by
  intro pins s σ H vs us Q I r h
  obtain ⟨z, rfl, hz, q⟩ := h
  obtain ⟨u, rfl, ru⟩ := r.one
  obtain ⟨t, rfl⟩ := ru
  have := line63
  exact PySem.P.len_str (by omega) ⟨.int z.length, H, I.tok _, ⟨_, rfl⟩, fun _ h => h, q⟩
/-- tuple(list) -/
theorem ck_tuple : CallK X (.type "tuple") fun xs H Q => ∃ p ys, xs = [V.ref p] ∧ SqL X.K H p ys ∧ ∀ (l : Addr), H l = none → Q (V.ref l) (upd H l (.tup ys)) := by
  intro pins s σ H vs us Q I r h
  obtain ⟨p, ys, rfl, hq, q⟩ := h
  obtain ⟨u, rfl, ru⟩ := r.one
  obtain rfl : u = Value.ref p := ru
  obtain ⟨its, r', pl, hz⟩ := I.list hq
  have hlen := r'.length
  refine call_tuple_list pl.isList (fun h' kp => ?_) (by rw [List.size_toArray]; omega)
  have I1 := I.kept (t' := s.toks) kp
  have hf : H h'.objs.size = none := I1.hok.fresh (Nat.le_refl _)
  have kk : ∀ b u, h'.get? b = some u → (h'.push { cls := .type "tuple", data := .seq its.toArray }).get? b = some u := fun b u e => Heap.get?_push_of_some _ e
  exact ⟨.ref h'.objs.size, upd H h'.objs.size (.tup ys), I1.laid (t' := s.toks) kk (Nat.le_refl _) ⟨hz, its, r', IsTup.new h' its.toArray⟩, rfl, fun m hm => ns_kept (fun b u e => kk b u (kp b u e)) m hm, q _ hf⟩
/-- C(e, ..) -/
theorem k_make {CX : CXT} {k : Nat} {f C : Addr} {fd : FuncData} {ps : List Str} {sp : Sp} {E : XK} (M : Mk X.K C f) (F : FnOk X.prog X.w X.K X.mg X.base CX k f fd ps sp) (hr : Room (k + 1) X.A) (hg : Gl X x) (hm : X.mg x = some (.ref C)) (hb : Binds X.K fd ps []) (hx : Passes CX X E)
    (ha : PAK X (e :: es) t) (hdb : (x == ("__debug__" : Str)) = false := by decide) (he : starEach (e :: es) X.env = (false, eval e X.env) :: starEach es X.env := by rfl) (hpl : (backTo pos (starEach es X.env)).any (·.1) = false := by rfl) :
    PEK X (.Call (.Name x p) (e :: es) [] pos) (tMake C sp [] E t) := by
  refine ⟨fun pins s σ H Q I h => ?_⟩
  refine wpAny_Call_Name_kw (ld_glob I hg hm ?_ hdb)
  refine PySem.W.callWith_K (h₀ := X.base) I.ok.mod.kin M.kp (thn (ha.run pos pins s σ H _ I h) fun us s1 ⟨vs, H1, I1, r, kp, q⟩ => ⟨I1.kIn, ?_⟩) he hpl
  have hq := q (s1.heap.objs.size + 1) s1.heap.objs.size (I1.hok.fresh (Nat.le_succ _)) (I1.hok.fresh (Nat.le_refl _)) (Nat.ne_of_lt (Nat.lt_succ_self _))
  rw [List.append_nil] at hq
  have I2 := Inv.made (C := C) I1
  have r2 : Vals (V.ref (s1.heap.objs.size + 1) :: vs) (Value.ref (s1.heap.objs.size + 1) :: us) := .cons rfl r
  have hl : ((Value.ref (s1.heap.objs.size + 1) :: us) ++ []).length = ps.length := by
    have e := r2.length
    rw [F.len _ _ _ _ hq] at e
    rw [List.append_nil]
    exact e.symm
  have hb' := hb _ (Value.ref (s1.heap.objs.size + 1) :: us) I2.kIn hl
  rw [List.append_nil] at hb'
  have base : wpAny (model X.prog X.w) X.A (call (.ref C) us) (EPF X pins σ Q s1) X.xe s1 := by
    refine wpAny_call (make_map (f := f) I1.kIn M.makes M.init (beq_iff_eq.mp M.fn) (codeAny_mono (F.run _ X.stack _ _ ⟨Value.ref (s1.heap.objs.size + 1) :: us, []⟩ (Value.ref (s1.heap.objs.size + 1) :: us) _ _ E (hr.make C us [])
      (I2.env0.make C us []) hb' r2 hq) fun r s' hq' => ?_))
    cases r with
    | error e => exact hx pins σ _ _ e s' I2 hq'
    | ok fl =>
      cases fl with
      | ret u =>
        have fr : ∀ m, s1.heap.Ns X.env.locals m → s'.heap.Ns X.env.locals m := by
          obtain ⟨v, H', _, _, un, _⟩ := id hq'
          exact fun m hm => ns_un I2 un m (ns_kept (fun b u e => Heap.get?_push_of_some _ (Heap.get?_push_of_some _ e)) m hm)
        obtain ⟨v, H', I3, rv, ev, q3⟩ := I2.after hq'
        subst ev
        exact ⟨rv, ⟨V.ref (s1.heap.objs.size + 1), H', I3, rfl, fr, q3⟩⟩
      | next => exact False.elim hq'
      | brk => exact False.elim hq'
      | cont => exact False.elim hq'
  exact thn (epf_k base) fun u s2 ⟨v, H2, I2, r2, k2, q2⟩ => ⟨v, H2, I2, r2, kp.trans k2, q2⟩
theorem kt_not {tA : TT} (ha : PTK X a tA) : PTK X (.UnaryOp .Not a pos) (tNot tA) := ⟨fun pins s σ H Q I h => isTrue_not (thn (ha.run pins s σ H _ I h) fun c s1 ⟨H1, I1, k1, q⟩ => ⟨H1, I1, k1, q⟩)⟩
theorem kt_val (h : PEK X e te) (he : ∀ whole : Sem Value, PySem.isTrue e X.env whole = (do
      let v ← whole
      standAt e.pos
      holding [v] (truthy v)) := by intro _; rfl) : PTK X e (tB te) := ⟨fun pins s σ H Q I hw => by
  refine isTrue_plain (thn (h.run pins s σ H _ I hw) fun v s1 ⟨x, H1, I1, r1, k1, d, ex, q⟩ => ?_) (he (eval e X.env))
  subst ex
  obtain rfl : v = Value.bool d := r1
  exact wpAny_truthy_bool ⟨H1, I1, k1, q⟩⟩
structure PWK (X : Cx) (e : Expr) (t : TT) : Prop where
  run : ∀ (whole : Sem Value) (pins : List (Addr × Obj)) (s : Shared) (σ : L2.St) (H : Hp) (Q : Bool → Hp → Prop), Inv X pins σ H s → t σ H Q → wpAny (model X.prog X.w) X.A (PySem.isTrue e X.env whole) (fun b s' => ∃ H', Inv X pins σ H' s' ∧ Kp X s s' ∧ Q b H') X.xe s
theorem PWK.pt {t : TT} (h : PWK X e t) : PTK X e t := ⟨h.run (eval e X.env)⟩
theorem kw_or1 {tA : TT} (ha : PTK X a tA) : PWK X (.BoolOp .Or [a] pos) tA := ⟨fun wh pins s σ H Q I h => isTrue_or (thn (ha.run pins s σ H Q I h) fun c s1 q => by
  cases c with
  | true => exact q
  | false => exact isTrue_or_nil q)⟩
theorem kw_or {tA tB' : TT} {rest : List Expr} (ha : PTK X a tA) (hb : PWK X (.BoolOp .Or (b :: rest) pos) tB') : PWK X (.BoolOp .Or (a :: b :: rest) pos) (tOr tA tB') := ⟨fun wh pins s σ H Q I h => isTrue_or (thn (ha.run pins s σ H _ I h) fun c s1 ⟨H1, I1, k1, q1⟩ => by
  cases c with
  | true => exact ⟨H1, I1, k1, q1⟩
  | false => exact thn (hb.run wh pins s1 σ H1 Q I1 q1) fun d s2 ⟨H2, I2, k2, q2⟩ => ⟨H2, I2, k1.trans k2, q2⟩)⟩
end
end XW
end
section
set_option Elab.async false
set_option linter.all false
set_option maxRecDepth 100000
set_option maxHeartbeats 4100000
/-! stores of two names at once, a loop over a range: the frame told -/
namespace XW
open PySem PySem.Spec PyProof.Rows L2 XD XK
section
variable {X : Cx}
/-- a local name is stored: all but it stays in the frame -/
theorem store_raw {pins : List (Addr × Obj)} {σ : L2.St} {H : Hp} {s : Shared} {i : Nat} {x : Str} {v : V} {u : Value} {E : Value → Shared → Prop} (I : Inv X pins σ H s) (hN : X.N.Nodup) (hi : X.N[i]? = some x) (hl : X.env.scope.names.lookup x = some .local) (hk : X.env.scope.kind = .function) (r : RelV v u) :
    wpAny (model X.prog X.w) X.A (storeName X.env x u) (fun _ s' => Inv X pins (σ.set i (some v)) H s' ∧ s.toks ≤ s'.toks ∧ ∀ m, s.heap.Ns X.env.locals m → s'.heap.Ns X.env.locals (fun y => if y = x then some u else m y)) E s := by
  obtain ⟨m, hn, _⟩ := id I.loc
  have hcls : (X.env.scope.kind == .class || (X.env.scope.kind == .module && X.env.locals != X.env.globals)) = false := by rw [hk]; rfl
  have h1 : wpAny (model X.prog X.w) X.A (storeName X.env x u) (fun _ s2 => Inv X pins (σ.set i (some v)) H s2) E s := store_ok I hN hi (.inl hl) r (fun s2 I2 => I2) (.inr hl)
  have h2 : wpAny (model X.prog X.w) X.A (storeName X.env x u) (fun _ s2 => s.toks ≤ s2.toks ∧ s2.heap.Ns X.env.locals (fun y => if y = x then some u else m y)) E s :=
    wpAny_storeName_local hl hn (fun h' hn' _ => ⟨Nat.le_succ _, hn'⟩) hcls
  refine wpAny_mono (wpAny_and h1 h2) (fun _ s2 q => ⟨q.1, q.2.1, fun m' hm' => ?_⟩) fun _ _ q => q.1
  have e : m' = m := funext fun n => ns_inj hm' hn n
  rw [e]
  exact q.2.2
/-- x, y = a, b -/
def tParW (X : Cx) (i j : Nat) (x y : Str) (t : TAW) : TSW := fun D s σ H => t s σ H fun vs us s1 H1 => ∃ v w u1 u2, vs = [v, w] ∧ us = [u1, u2] ∧ ∀ s2, s1.toks ≤ s2.toks →
  (∀ m, s1.heap.Ns X.env.locals m → s2.heap.Ns X.env.locals (fun z => if z = x then some u1 else if z = y then some u2 else m z)) → D.nx s2 ((σ.set i (some v)).set j (some w)) H1
theorem psw_par {pos px py pt pt2 : Pos} {kt k2 : Nat} {i j : Nat} {x y : Str} {a b : Expr} {t : TAW} (hc : X.calm = true) (hN : X.N.Nodup) (hi : X.N[i]? = some x) (hj : X.N[j]? = some y) (hij : i ≠ j) (hx : X.env.scope.names.lookup x = some .local) (hy : X.env.scope.names.lookup y = some .local) (hk : X.env.scope.kind = .function)
    (ha : PAW X [a, b] t) (hw : swappedStores [.Tuple [.Name x px, .Name y py] kt pt] (.Tuple [a, b] k2 pt2) X.env = pure (some [x, y])) (hs : swapsWithSole [.Tuple [.Name x px, .Name y py] kt pt] (.Tuple [a, b] k2 pt2) pos.line X.env = pure false := by rfl) :
    PSW X (.Assign [.Tuple [.Name x px, .Name y py] kt pt] (.Tuple [a, b] k2 pt2) pos) (tParW X i j x y t) := by
  refine ⟨fun pins s σ H D I h => ?_⟩
  rw [exec_Assign_arm]
  refine wpAny_bind (wpAny_standAt ?_)
  rw [hs]
  refine wpAny_bind (wpAny_pure ?_)
  rw [if_neg (by decide)]
  refine wpAny_bind (Tuple_ (thn (ha.run pt2 pins s σ H _ I h) fun us s1 ⟨vs, H1, I1, r1, v, w, u1, u2, ev, eu, q⟩ => ?_))
  subst ev
  subst eu
  have rv : RelV v u1 := by cases r1 with | cons a b => exact a
  have rw' : RelV w u2 := by
    cases r1 with
    | cons a b =>
      cases b with
      | cons c d => exact c
  refine wpAny_newObj_type ?_ (by show 2 ≤ sizeLine; decide)
  have kk : ∀ b o, s1.heap.get? b = some o → (s1.heap.push { cls := .type "tuple", data := .seq #[u1, u2] }).get? b = some o := fun b o e => Heap.get?_push_of_some _ e
  have I2 := I1.kept (t' := s1.toks) kk
  rw [hw]
  refine wpAny_bind (wpAny_pure ?_)
  unfold assignStores
  dsimp only
  refine wpAny_bind (wpAny_rule ?_)
  refine wpAny_bind ?_
  have un : ∀ Q, (∀ (h' : Heap), Heap.ExtBut (s1.heap.push { cls := .type "tuple", data := .seq #[u1, u2] }).objs.size (s1.heap.push { cls := .type "tuple", data := .seq #[u1, u2] }) h' → Q [u1, u2] { s1 with heap := h' }) → wpAny (model X.prog X.w) X.A (unpackItems (Value.ref s1.heap.objs.size) 2 none) Q X.xe { s1 with heap := s1.heap.push { cls := .type "tuple", data := .seq #[u1, u2] } } := fun Q q =>
    unpackItems_tuple (items := #[u1, u2]) (I.ok.hd hc) (IsTup.new s1.heap #[u1, u2]) q
  refine un _ fun h' hx' => ?_
  have I3 := I2.kept (t' := s1.toks) fun b o e => hx' b o (Nat.ne_of_lt (Heap.lt_size e)) e
  have fin : wpAny (model X.prog X.w) X.A (assignInOrder [bindName X.env y, bindName X.env x] [u2, u1]) (fun _ s3 => SPW X pins D Flow.next s3) X.xe { s1 with heap := h' } := by
    refine assignInOrder_cons (wpAny_bindName (wpAny_mono (store_raw I3 hN hj hy hk rw') (fun _ s2 ⟨I4, k4, f4⟩ => assignInOrder_cons (wpAny_bindName (wpAny_mono (store_raw I4 hN hi hx hk rv) (fun _ s3 ⟨I5, k5, f5⟩ => assignInOrder_nil ?_) fun _ _ q => q))) fun _ _ q => q))
    have e5 : (σ.set j (some w)).set i (some v) = (σ.set i (some v)).set j (some w) := List.set_comm (some w) (some v) (Ne.symm hij)
    rw [e5] at I5
    exact ⟨_, H1, I5, q s3 (Nat.le_trans k4 k5) fun m hm => f5 _ (f4 m (ns_kept (fun b u e => hx' b u (Nat.ne_of_lt (Heap.lt_size (kk b u e))) (kk b u e)) m hm))⟩
  exact wpAny_bind (wpAny_mono fin (fun _ s3 q => wpAny_pure q) fun _ _ q => q)
/-- for x in range(n): n a written number -/
def tForR (X : Cx) (i : Nat) (x : Str) (n : Nat) (tb : TSW) : TSW := fun D s σ H => ∃ Pv : Nat → Shared → L2.St → Hp → Prop, (∀ s', Kp X s s' → Pv 0 s' σ H) ∧
  (∀ k s1 σ1 H1, k < n → Pv k s1 σ1 H1 → ∀ s2 t, s1.toks ≤ s2.toks → (∀ m, s1.heap.Ns X.env.locals m → s2.heap.Ns X.env.locals (fun y => if y = x then some (Value.int (k : Int) t) else m y)) → tb { nx := Pv (k + 1), rt := D.rt } s2 (σ1.set i (some (.int (k : Int)))) H1) ∧
  ∀ s1 σ1 H1, Pv n s1 σ1 H1 → ∀ s2, Kp X s1 s2 → D.nx s2 σ1 H1
theorem psw_forR {pos pc p px cp : Pos} {i n jc : Nat} {k0 : Int} {x : Str} {body : List Stmt} {tb : TSW} (hc : X.calm = true) (hxe : ∀ u s, X.xe u s → False) (hg : Gl X "range") (hm : X.mg "range" = none) (hN : X.N.Nodup) (hi : X.N[i]? = some x) (hl : X.env.scope.names.lookup x = some .local) (hk : X.env.scope.kind = .function)
    (hn : k0 = (n : Int)) (hsm : Builtin.Range.small 0 (n : Int) 1 = true) (hb : PSsW X body tb)
    (hs : ∀ v, foldedSetIterable (.Call (.Name "range" p) [.Constant (.int k0) jc cp] [] pc) X.env v = pure v := by intro _; rfl) :
    PSW X (.For (.Name x px) (.Call (.Name "range" p) [.Constant (.int k0) jc cp] [] pc) body [] pos) (tForR X i x n tb) := by
  subst hn
  refine ⟨fun pins s σ H D I ⟨Pv, p0, step, fin⟩ => ?_⟩
  refine wpAny_For (Call_ (ld_blt I hg hm boot_range (callWith_type1 (thn ((ka_cons (X := X) (k_int (c := (n : Int)) (j := jc) (pos := cp)) ka_nil).run pc pins s σ H (fun vs H1 => vs = [.int (n : Int)] ∧ H1 = H) I ⟨rfl, rfl⟩) fun us s1 ⟨vs, H1, I1, r1, k1, e1, e2⟩ => ?_) rfl rfl))) hs
  subst e1
  subst e2
  obtain ⟨u, rfl, ru⟩ := r1.one
  obtain ⟨t, rfl⟩ := ru
  refine call_range_1 ?_
  generalize hr : ({ cls := .type "range", data := .fields #[.int 0 s1.toks, .int (n : Int) t, .int 1 (s1.toks + 1)] } : Obj) = rg
  have J : Inv X pins σ H1 { s1 with heap := s1.heap.push rg, toks := s1.toks + 1 + 1 } := I1.kept fun y o e => Heap.get?_push_of_some _ e
  have hrg : IsRange (s1.heap.push rg) s1.heap.objs.size 0 (n : Int) 1 s1.toks t (s1.toks + 1) := by rw [← hr]; exact IsRange.new ..
  refine wpAny_pyIter_range hrg hsm ?_
  generalize hz : (s1.heap.push rg).objs.size = z
  have e2 : (((n : Nat) : Int) - ((0 : Nat) : Int)) = Builtin.Range.rangeSize 0 (n : Int) 1 := by
    rw [rangeSize_one]
    split <;> omega
  generalize hio : ({ cls := .type "range_iterator", data := .fields #[rawInt 0, rawInt (Builtin.Range.rangeSize 0 (n : Int) 1), rawInt 1] } : Obj) = io
  have fz : FpOk X pins H1 z := by rw [← hz]; exact J.fpOk (Nat.le_refl _) (J.hok.fresh (Nat.le_refl _))
  have J2 : Inv X pins σ H1 { s1 with heap := (s1.heap.push rg).push io, toks := s1.toks + 1 + 1 } := I1.kept fun y o e => Heap.get?_push_of_some _ (Heap.get?_push_of_some _ e)
  have st0 : IsRangeIter ((s1.heap.push rg).push io) z ((0 : Int) + ((0 : Nat) : Int) * 1) ((n : Int) - ((0 : Nat) : Int)) 1 := by
    rw [e2, ← hz, ← hio]
    exact Heap.get?_push_size _ rfl
  have kp0 : Kp X s { s1 with heap := (s1.heap.push rg).push io, toks := s1.toks + 1 + 1 } := ⟨Nat.le_trans k1.tk (Nat.le_add_right _ 2), fun m h => ns_kept (fun b u e => Heap.get?_push_of_some _ (Heap.get?_push_of_some _ e)) m (k1.fr m h)⟩
  refine codeAny_forLoop_any (fun c s' => ∃ k σ' H', c = n - k ∧ k ≤ n ∧ Inv X pins σ' H' s' ∧ IsRangeIter s'.heap z ((0 : Int) + (k : Int) * 1) ((n : Int) - (k : Int)) 1 ∧ H' z = none ∧ Pv k s' σ' H') ?_ n ⟨0, σ, H1, by omega, Nat.zero_le _, J2, st0, fz.1, p0 _ kp0⟩
  rintro c s5 ⟨k, σ5, H5, rfl, kn, I5, st5, z5, pv5⟩
  have f5 : FpOk X pins H5 z := ⟨z5, fz.2⟩
  by_cases go : k < n
  · have hit : wpAny (model X.prog X.w) X.A (pyNext (.ref z)) (fun r s6 => ∃ t, r = some (Value.int (k : Int) t) ∧ Inv X pins σ5 H5 s6 ∧ IsRangeIter s6.heap z ((0 : Int) + ((k + 1 : Nat) : Int) * 1) ((n : Int) - ((k + 1 : Nat) : Int)) 1 ∧ ∀ m, s5.heap.Ns X.env.locals m → s6.heap.Ns X.env.locals m) (fun _ _ => False) s5 := by
      obtain ⟨a0, a1, a2, a3, a4, a5⟩ := f5
      refine (Walks.range (prog := X.prog) (w := X.w) (I5.ok.hd hc) z 0 1 n).item k s5 _ _ go st5 fun v h2 t2 hv st2 kk => ?_
      obtain ⟨t, ev⟩ := hv
      subst ev
      have ez : (0 : Int) + (k : Int) * 1 = (k : Int) := by omega
      refine ⟨t, by rw [ez], I5.turned (fun y o hy e => kk y o (by simpa using hy) e) a0 a1 a3 a4 a5, st2, fun m ⟨o, es, ep, q, r⟩ => ⟨o, es, ep, kk _ _ (by simpa using fun e => a1 e.symm) q, r⟩⟩
    refine wpAny_mono (PySem.wpAny_toks hit) (fun r s6 ⟨hk6, t, er, I6, st6, fr6⟩ => ?_) fun _ _ q => q.2.elim
    subst er
    refine go_of (n := "range_iterator") st6 rfl rfl (by decide) ?_
    have I6' := I6.pinned (fp := [z]) (fun b hb => by
      rw [List.mem_singleton] at hb
      subst hb
      exact f5) (fun b hb => by
      rw [List.mem_singleton] at hb
      subst hb
      refine ⟨_, st6, fun v c => ?_⟩
      have c' : Data.fields _ = Data.cell v := c
      cases c')
    refine wpAny_assign_Name (wpAny_mono (store_raw (v := .int (k : Int)) I6' hN hi hl hk ⟨t, rfl⟩) (fun _ s7 ⟨I7, k7, f7⟩ => ?_) fun _ _ q => q)
    have hbody := hb.run (pins ++ pinsAt [z] s6.heap) s7 _ H5 { nx := Pv (k + 1), rt := D.rt } I7 (step k s5 σ5 H5 go pv5 s7 t (Nat.le_trans hk6 k7) fun m hm => f7 m (fr6 m hm))
    refine wpAny_mono hbody (fun f s8 q => ?_) fun e s' q => (hxe _ _ q).elim
    cases f with
    | next =>
      obtain ⟨σ8, H8, I8, q8⟩ := q
      have pz := I8.pin _ (List.mem_append_right _ (List.mem_append_right _ (mem_pinsAt (List.mem_singleton.mpr rfl) st6)))
      exact ⟨n - (k + 1), by omega, k + 1, σ8, H8, rfl, go, I8.unpinned, pz.1, pz.2.1, q8⟩
    | ret v =>
      obtain ⟨v', σ8, H8, I8, r8, q8⟩ := q
      exact ⟨v', σ8, H8, I8.unpinned, r8, q8⟩
    | brk => exact False.elim q
    | cont => exact False.elim q
  · have kn' : k = n := by omega
    subst kn'
    obtain ⟨a0, a1, a2, a3, a4, a5⟩ := f5
    refine wpAny_pyNext_range_end (I5.ok.hd hc) st5 (by omega) fun h' eb => ?_
    refine wpAny_execs_nil ?_
    exact ⟨σ5, H5, I5.turned (t' := s5.toks) (fun y o hy e => eb y o hy e) a0 a1 a3 a4 a5, fin s5 σ5 H5 pv5 _ ⟨Nat.le_refl _, fun m ⟨o, es, ep, q, r⟩ => ⟨o, es, ep, eb _ _ (fun e => a1 e.symm) q, r⟩⟩⟩
end
end XW
end
section
set_option Elab.async false
set_option linter.all false
set_option maxRecDepth 100000
set_option maxHeartbeats 4100000
/-! makers of known texts that keep the frame, three stores at once, and .. and -/
namespace XW
open PySem PySem.Spec PyProof.Rows L2 XD XK
section
variable {X : Cx} {a b c e o : Expr} {es : List Expr} {ta tb te to : TE} {tw tv : TEW} {pos p apos p2 : Pos} {x : Str}
/-- C(e, ..): raw arguments, the frame kept -/
def tMakeK (X : Cx) (C : Addr) (sp : SpW) (E : XK) (t : TAW) : TEW := fun s σ H Q => t s σ H fun vs us s1 H1 => ∀ a dx s2, H1 a = none → H1 dx = none → dx ≠ a → s1.toks ≤ s2.toks →
  sp (.ref a :: vs) (.ref a :: us) s2 (upd (upd H1 dx (.own a)) a (.ins C dx [])) (fun v _ s3 H3 => v = .non ∧ ∀ s4, s3.toks ≤ s4.toks → Kp X s1 s4 → Q (.ref a) (.ref a) s4 H3) E
theorem pew_makeK {CX : CXT} {k : Nat} {f C : Addr} {fd : FuncData} {ps : List Str} {sp : SpW} {E : XK} {t : TAW} (M : Mk X.K C f) (F : FnRaw X.prog X.w X.K X.mg X.base CX k f fd ps sp) (hr : Room (k + 1) X.A) (hg : Gl X x) (hm : X.mg x = some (.ref C)) (hb : Binds X.K fd ps []) (hx : Passes CX X E)
    (ha : PAW X (e :: es) t) (hdb : (x == ("__debug__" : Str)) = false := by decide) (he : starEach (e :: es) X.env = (false, eval e X.env) :: starEach es X.env := by rfl) (hpl : (backTo pos (starEach es X.env)).any (·.1) = false := by rfl) :
    PEW X (.Call (.Name x p) (e :: es) [] pos) (tMakeK X C sp E t) := by
  refine ⟨fun pins s σ H Q I h => ?_⟩
  refine wpAny_Call_Name_kw (ld_glob I hg hm ?_ hdb)
  refine PySem.W.callWith_K (h₀ := X.base) I.ok.mod.kin M.kp (thn (ha.run pos pins s σ H _ I h) fun us s1 ⟨vs, H1, I1, r, q⟩ => ⟨I1.kIn, ?_⟩) he hpl
  have hq := q (s1.heap.objs.size + 1) s1.heap.objs.size { s1 with heap := (s1.heap.push PySem.W.emptyDict).push (PySem.W.instObj C s1.heap.objs.size) } (I1.hok.fresh (Nat.le_succ _)) (I1.hok.fresh (Nat.le_refl _)) (Nat.ne_of_lt (Nat.lt_succ_self _)) (Nat.le_refl _)
  have I2 := Inv.made (C := C) I1
  have r2 : Vals (V.ref (s1.heap.objs.size + 1) :: vs) (Value.ref (s1.heap.objs.size + 1) :: us) := .cons rfl r
  have hl : ((Value.ref (s1.heap.objs.size + 1) :: us) ++ []).length = ps.length := by
    have e := r2.length
    rw [F.len _ _ _ _ _ _ hq] at e
    rw [List.append_nil]
    exact e.symm
  have hb' := hb _ (Value.ref (s1.heap.objs.size + 1) :: us) I2.kIn hl
  rw [List.append_nil] at hb'
  refine wpAny_call (make_map (f := f) I1.kIn M.makes M.init (beq_iff_eq.mp M.fn) (codeAny_mono (codeAny_toks_of (Nat.le_refl s1.toks) (F.run _ X.stack _ _ ⟨Value.ref (s1.heap.objs.size + 1) :: us, []⟩ (Value.ref (s1.heap.objs.size + 1) :: us) _ _ E (hr.make C us [])
    (I2.env0.make C us []) hb' r2 hq)) fun r s' ⟨hk, hq'⟩ => ?_))
  cases r with
  | error e => exact hx pins σ _ _ e s' I2 hq'
  | ok fl =>
    cases fl with
    | ret u =>
      have fr : ∀ m, s1.heap.Ns X.env.locals m → s'.heap.Ns X.env.locals m := by
        obtain ⟨v, H', _, _, un, _⟩ := id hq'
        exact fun m hm => ns_un I2 un m (ns_kept (fun b u e => Heap.get?_push_of_some _ (Heap.get?_push_of_some _ e)) m hm)
      obtain ⟨v, H', I3, rv, ev, q3⟩ := I2.after hq'
      subst ev
      exact ⟨rv, ⟨V.ref (s1.heap.objs.size + 1), H', I3, rfl, q3 _ (Nat.le_refl _) ⟨hk, fr⟩⟩⟩
    | next => exact False.elim hq'
    | brk => exact False.elim hq'
    | cont => exact False.elim hq'
/-- o.m(e, ..): o known, what follows black -/
def tMethB (C : Addr) (m : Str) (sp : Sp) (E : XK) (tw : TEW) (t : TA) : TEW := fun s σ H Q => tw s σ H fun x _ s1 H1 => ∃ a dx fs, x = .ref a ∧ InsA H1 a C dx fs ∧ fs.lookup m = none ∧ t σ H1 fun vs H2 => sp (x :: vs) H2 (fun v H3 => ∀ u s3, RelV v u → Q v u s3 H3) E
theorem pew_methB {CX : CXT} {k : Nat} {f C : Addr} {fd : FuncData} {ps : List Str} {sp : Sp} {E : XK} {m : Str} {t : TA} {pl : Sem Bool} (he : PEW X o tw) (c : Cls X.K C) (hm : Meth X.K C m f) (F : FnOk X.prog X.w X.K X.mg X.base CX k f fd ps sp) (hr : Room k X.A) (hb : Binds X.K fd ps []) (hx : Passes CX X E) (ha : PA X (e :: es) t)
    (hst : starEach (e :: es) X.env = (false, eval e X.env) :: starEach es X.env := by rfl) (hpl : (backTo pos (starEach es X.env)).any (·.1) = false := by rfl)
    (ht : eval (.Call (.Attribute o m apos) (e :: es) [] pos) X.env = (do
      let ov ← eval o X.env
      standAt apos.atName
      let (f, first) ← holding [ov] (getMethod ov m pl)
      callWith pos f first (backTo pos (starEach (e :: es) X.env)) (backToKw pos (keywordEach [] X.env))) := by rfl) :
    PEW X (.Call (.Attribute o m apos) (e :: es) [] pos) (tMethB C m sp E tw t) := by
  refine ⟨fun pins s σ H Q I h => ?_⟩
  refine PySem.W.methodCall_KW (pl := pl) (thn (he.run pins s σ H _ I h) fun u s1 ⟨x, H1, I1, rx, a, dx, fs, ex, ea, l, q⟩ => ?_) ht
  subst ex
  obtain rfl : u = Value.ref a := rx
  obtain ⟨Hd, Id, ed⟩ := ea.view I1
  refine getmeth_ok Id ed c hm l ?_
  refine PySem.W.callWith_K (first := [.ref a]) (h₀ := X.base) I.ok.mod.kin hm.kp (thn (ha.run pos pins s1 σ H1 _ I1 q) fun us s2 ⟨vs, H2, I2, r, q2⟩ => ⟨I2.kIn, ?_⟩) hst hpl
  exact thn (run_k (us := .ref a :: us) (vs := .ref a :: vs) F hr hb hx I2 (.cons rfl r) q2) fun u s3 ⟨v, H3, I3, r3, k3, q3⟩ => ⟨v, H3, I3, r3, q3 u s3 r3⟩
/-- a op b: a known, what follows black -/
def tOpB (r : R2) (tw : TEW) (tb : TE) : TEW := fun s σ H Q => tw s σ H fun x _ _ H1 => tb σ H1 fun y H2 => r x y H2 fun z H3 => ∀ u s3, RelV z u → Q z u s3 H3
theorem pew_cmpB {op : CmpOp} {r : R2} (O : OpR X (compareOp op) r) (ha : PEW X a tw) (hb : PE X b tb) (hm : behindInMarks op b = false) : PEW X (.Compare a [op] [b] pos) (tOpB r tw tb) := by
  refine ⟨fun pins s σ H Q I h => ?_⟩
  refine wpAny_Compare1 (thn (ha.run pins s σ H _ I h) fun v s1 ⟨x, H1, I1, r1, q1⟩ => thn (hb.run pins s1 σ H1 _ I1 q1) fun u s2 ⟨y, H2, I2, r2, q2⟩ => ?_) hm
  exact thn (O pins s2 σ H2 x y v u _ I2 r1 r2 q2) fun w s3 ⟨z, H3, I3, r3, q3⟩ => ⟨z, H3, I3, r3, q3 w s3 r3⟩
/-- a and b -/
def tAndW (ta : TE) (tw : TEW) (X : Cx) : TEW := fun s σ H Q => ta σ H fun x H1 => ∃ c, x = .bl c ∧ ∀ s1, Kp X s s1 → if c = true then tw s1 σ H1 Q else Q (.bl false) (.bool false) s1 H1
theorem pew_and {rest : List Expr} (ha : PEK X a ta) (hb : PEW X (.BoolOp .And (b :: rest) pos) tw) : PEW X (.BoolOp .And (a :: b :: rest) pos) (tAndW ta tw X) := by
  refine ⟨fun pins s σ H Q I h => ?_⟩
  refine BoolOp_and (thn (ha.run pins s σ H _ I h) fun v s1 ⟨x, H1, I1, r1, k1, c, ex, q1⟩ => ?_)
  subst ex
  obtain rfl : v = Value.bool c := r1
  refine wpAny_truthy_bool ?_
  have q2 := q1 s1 k1
  cases c with
  | true => exact hb.run pins s1 σ H1 Q I1 q2
  | false => exact ⟨.bl false, H1, I1, rfl, q2⟩
theorem pew_one {op : BoolOp} (h : PEW X a tw) : PEW X (.BoolOp op [a] pos) tw := ⟨fun pins s σ H Q I hw => BoolOp_one (h.run pins s σ H Q I hw)⟩
/-- a list against one without items -/
theorem ok_eqNil (hu : X.A.units < cLine) : OpK X (compareOp .Eq) (fun x y H Q => ∃ l b xs, x = V.ref l ∧ y = V.ref b ∧ H l = some (.lst xs) ∧ H b = some (.lst []) ∧ Q (.bl xs.isEmpty) H) := by
  intro pins s σ H x y v u Q I rx ry h
  obtain ⟨l, b, xs, rfl, rfl, hl, hb, q⟩ := h
  obtain rfl : v = Value.ref l := rx
  obtain rfl : u = Value.ref b := ry
  obtain ⟨z1, i1, n1, r1, e1⟩ := I.hok l _ hl
  obtain ⟨z2, i2, n2, r2, e2⟩ := I.hok b _ hb
  cases r2
  have l1 := r1.length
  cases xs with
  | nil =>
    cases r1
    exact PySem.P.eq_list (items := #[]) (items2 := #[]) (n := n1) (n2 := n2) (e := fun _ => true) e1 e2 rfl (fun j h1 _ => absurd h1 (Nat.not_lt_zero j)) hu ⟨.bl true, H, I, rfl, fun _ h => h, q⟩
  | cons x xs =>
    refine PySem.P.eq_list_lengths (items := i1.toArray) (items2 := #[]) (n := n1) (n2 := n2) e1 e2 ?_ hu ⟨.bl false, H, I, rfl, fun _ h => h, q⟩
    rw [List.size_toArray, ← l1]
    rfl
/-- list[i] -/
theorem k_ixL (ha : PEK X a ta) (hb : PEK X b tb) (hs : PlainIx b) : PEK X (.Subscript a b pos) (tOp (fun x y H Q => ∃ (l : Addr) (xs : List V) (j : Nat) (v : V), x = V.ref l ∧ y = V.int (j : Int) ∧ H l = some (.lst xs) ∧ xs[j]? = some v ∧ Q v H) ta tb) := by
  refine ⟨fun pins s σ H Q I h => ?_⟩
  refine Subscript_ (thn (ha.run pins s σ H _ I h) fun v s1 ⟨x, H1, I1, rx, k1, q1⟩ => thn (hb.run pins s1 σ H1 _ I1 q1) fun u s2 ⟨y, H2, I2, ry, k2, l, xs, j, w, ex, ey, hl, hx, q⟩ => ?_)
  subst ex
  subst ey
  cases rx
  obtain ⟨t', rfl⟩ := ry
  obtain ⟨z, us, n, r, e⟩ := I2.hok l _ hl
  obtain ⟨uw, hu, rw'⟩ := r.get hx
  have hn := line63
  have hj2 : j < us.length := (List.getElem?_eq_some_iff.mp hu).1
  have hl' := r.length
  have pl : s2.heap.IsList l us.toArray := ⟨_, e, rfl, _, rfl⟩
  have fin : ∃ v H', Inv X pins σ H' s2 ∧ RelV v uw ∧ Kp X s s2 ∧ Q v H' := ⟨w, H2, I2, rw', k1.trans k2, q⟩
  exact item_listR pl (by omega) (by omega) (by simpa using hu) fin (hs _ _)
/-- x, y, z = a, b, c -/
def tPar3W (X : Cx) (i j l : Nat) (x y z : Str) (t : TAW) : TSW := fun D s σ H => t s σ H fun vs us s1 H1 => ∃ v1 v2 v3 u1 u2 u3, vs = [v1, v2, v3] ∧ us = [u1, u2, u3] ∧ ∀ s2, s1.toks ≤ s2.toks →
  (∀ m, s1.heap.Ns X.env.locals m → s2.heap.Ns X.env.locals (fun n => if n = x then some u1 else if n = y then some u2 else if n = z then some u3 else m n)) → D.nx s2 (((σ.set i (some v1)).set j (some v2)).set l (some v3)) H1
theorem psw_par3 {px py pz pt pt2 : Pos} {kt k2 : Nat} {i j l : Nat} {x y z : Str} {t : TAW} (hc : X.calm = true) (hN : X.N.Nodup) (hi : X.N[i]? = some x) (hj : X.N[j]? = some y) (hl : X.N[l]? = some z) (hij : i ≠ j) (hil : i ≠ l) (hjl : j ≠ l) (hx : X.env.scope.names.lookup x = some .local) (hy : X.env.scope.names.lookup y = some .local) (hz : X.env.scope.names.lookup z = some .local) (hk : X.env.scope.kind = .function)
    (ha : PAW X [a, b, c] t) (hw : swappedStores [.Tuple [.Name x px, .Name y py, .Name z pz] kt pt] (.Tuple [a, b, c] k2 pt2) X.env = pure (some [x, y, z])) (hs : swapsWithSole [.Tuple [.Name x px, .Name y py, .Name z pz] kt pt] (.Tuple [a, b, c] k2 pt2) pos.line X.env = pure false := by rfl) :
    PSW X (.Assign [.Tuple [.Name x px, .Name y py, .Name z pz] kt pt] (.Tuple [a, b, c] k2 pt2) pos) (tPar3W X i j l x y z t) := by
  refine ⟨fun pins s σ H D I h => ?_⟩
  rw [exec_Assign_arm]
  refine wpAny_bind (wpAny_standAt ?_)
  rw [hs]
  refine wpAny_bind (wpAny_pure ?_)
  rw [if_neg (by decide)]
  refine wpAny_bind (Tuple_ (thn (ha.run pt2 pins s σ H _ I h) fun us s1 ⟨vs, H1, I1, r1, v1, v2, v3, u1, u2, u3, ev, eu, q⟩ => ?_))
  subst ev
  subst eu
  obtain ⟨rv1, rv2, rv3⟩ : RelV v1 u1 ∧ RelV v2 u2 ∧ RelV v3 u3 := by
    cases r1 with
    | cons a b =>
      cases b with
      | cons c d =>
        cases d with
        | cons e f => exact ⟨a, c, e⟩
  refine wpAny_newObj_type ?_ (by show 3 ≤ sizeLine; decide)
  have kk : ∀ b o, s1.heap.get? b = some o → (s1.heap.push { cls := .type "tuple", data := .seq #[u1, u2, u3] }).get? b = some o := fun b o e => Heap.get?_push_of_some _ e
  have I2 := I1.kept (t' := s1.toks) kk
  rw [hw]
  refine wpAny_bind (wpAny_pure ?_)
  unfold assignStores
  dsimp only
  refine wpAny_bind (wpAny_rule ?_)
  refine wpAny_bind ?_
  have un : ∀ Q, (∀ (h' : Heap), Heap.ExtBut (s1.heap.push { cls := .type "tuple", data := .seq #[u1, u2, u3] }).objs.size (s1.heap.push { cls := .type "tuple", data := .seq #[u1, u2, u3] }) h' → Q [u1, u2, u3] { s1 with heap := h' }) → wpAny (model X.prog X.w) X.A (unpackItems (Value.ref s1.heap.objs.size) 3 none) Q X.xe { s1 with heap := s1.heap.push { cls := .type "tuple", data := .seq #[u1, u2, u3] } } := fun Q q =>
    unpackItems_tuple (items := #[u1, u2, u3]) (I.ok.hd hc) (IsTup.new s1.heap #[u1, u2, u3]) q
  refine un _ fun h' hx' => ?_
  have I3 := I2.kept (t' := s1.toks) fun b o e => hx' b o (Nat.ne_of_lt (Heap.lt_size e)) e
  have fin : wpAny (model X.prog X.w) X.A (assignInOrder [bindName X.env z, bindName X.env y, bindName X.env x] [u3, u2, u1]) (fun _ s3 => SPW X pins D Flow.next s3) X.xe { s1 with heap := h' } := by
    refine assignInOrder_cons (wpAny_bindName (wpAny_mono (store_raw I3 hN hl hz hk rv3) (fun _ s2 ⟨I4, k4, f4⟩ => assignInOrder_cons (wpAny_bindName (wpAny_mono (store_raw I4 hN hj hy hk rv2) (fun _ s3 ⟨I5, k5, f5⟩ => assignInOrder_cons (wpAny_bindName (wpAny_mono (store_raw I5 hN hi hx hk rv1) (fun _ s4 ⟨I6, k6, f6⟩ => assignInOrder_nil ?_) fun _ _ q => q))) fun _ _ q => q))) fun _ _ q => q))
    have e5 : ((σ.set l (some v3)).set j (some v2)).set i (some v1) = ((σ.set i (some v1)).set j (some v2)).set l (some v3) := by
      rw [List.set_comm (a := some v3) (b := some v2) (Ne.symm hjl), List.set_comm (a := some v3) (b := some v1) (Ne.symm hil), List.set_comm (a := some v2) (b := some v1) (Ne.symm hij)]
    rw [e5] at I6
    exact ⟨_, H1, I6, q s4 (Nat.le_trans k4 (Nat.le_trans k5 k6)) fun m hm => f6 _ (f5 _ (f4 m (ns_kept (fun b u e => hx' b u (Nat.ne_of_lt (Heap.lt_size (kk b u e))) (kk b u e)) m hm)))⟩
  exact wpAny_bind (wpAny_mono fin (fun _ s3 q => wpAny_pure q) fun _ _ q => q)
end
end XW
end
section
set_option Elab.async false
set_option linter.all false
set_option maxRecDepth 100000
set_option maxHeartbeats 4100000
namespace LA
open PySem PySem.Spec PyProof.Rows L2 XS XT XK XW XZt
section
variable {P : Program} {w : World} {K : PySem.W.Frag} {mg : Str → Option Value} {base : Heap} {C : Nat → Addr}
abbrev sPFirst : Stmt := cb 15 4
theorem scPFirst : FnScope ["self", "line"] ["self", "line"] (defScope sPFirst) := ⟨rfl, rfl, rfl, by decide +kernel, rfl, by decide +kernel, by decide +kernel⟩
theorem ok_PFirst {f : Addr} {fd : FuncData} (F : Fun K "has_place" "First.has_place" sPFirst f fd) (T : C2 K (C 0) "_old" "_new") : FnOk P w K mg base CX0 1 f fd ["self", "line"] (spPlace C 0) := by
  refine F.ok scPFirst (fun vs H Q E h => ?_) (fun cdv A outer s H vs Q E hr h => ?_)
  · obtain ⟨c, x, z, rfl, _⟩ := h
    rfl
  · obtain ⟨c, x, z, rfl, hc, ei, q⟩ := h
    refine ⟨_, pss_one (by exact (ps_ret (pe_cmpR op_in_str (pe_fldA (pv 0)) (pv 1) (by rfl)))), ?_⟩
    obtain ⟨p, dx, rfl, hp⟩ := hc.ins
    obtain ⟨i, a, b⟩ := c
    obtain rfl : i = 0 := ei
    exact ⟨_, rfl, p, C 0, dx, _, .str a, rfl, hp, T.cls, T.one, rfl, _, rfl, _, _, rfl, rfl, q⟩
abbrev sPEvery : Stmt := cb 16 4
theorem scPEvery : FnScope ["self", "line"] ["self", "line"] (defScope sPEvery) := ⟨rfl, rfl, rfl, by decide +kernel, rfl, by decide +kernel, by decide +kernel⟩
theorem ok_PEvery {f : Addr} {fd : FuncData} (F : Fun K "has_place" "Every.has_place" sPEvery f fd) (T : C2 K (C 1) "_old" "_new") : FnOk P w K mg base CX0 1 f fd ["self", "line"] (spPlace C 1) := by
  refine F.ok scPEvery (fun vs H Q E h => ?_) (fun cdv A outer s H vs Q E hr h => ?_)
  · obtain ⟨c, x, z, rfl, _⟩ := h
    rfl
  · obtain ⟨c, x, z, rfl, hc, ei, q⟩ := h
    refine ⟨_, pss_one (by exact (ps_ret (pe_cmpR op_in_str (pe_fldA (pv 0)) (pv 1) (by rfl)))), ?_⟩
    obtain ⟨p, dx, rfl, hp⟩ := hc.ins
    obtain ⟨i, a, b⟩ := c
    obtain rfl : i = 1 := ei
    exact ⟨_, rfl, p, C 1, dx, _, .str a, rfl, hp, T.cls, T.one, rfl, _, rfl, _, _, rfl, rfl, q⟩
end
end LA
end
section
set_option Elab.async false
set_option linter.all false
set_option maxRecDepth 100000
set_option maxHeartbeats 4100000
namespace LA
open PySem PySem.Spec PyProof.Rows L2 XS XT XK XW XZt
abbrev sOr : Stmt := top 36
/-! ### the first place -/
theorem pls_head {z y : Str} {n i : Nat} {r : List Nat} (h : pls z y n = i :: r) : hit (cod y) (cod z) i ∧ ∀ j, j < i → ¬ hit (cod y) (cod z) j := by
  unfold pls at h
  obtain ⟨l1, l2, e, no, yes, _⟩ := List.filter_eq_cons_iff.mp h
  have hi : (List.range n)[l1.length]? = some i := by rw [e, List.getElem?_append_right (Nat.le_refl _), Nat.sub_self]; rfl
  have hl : l1.length < n := by
    have := (List.getElem?_eq_some_iff.mp hi).1
    rwa [List.length_range] at this
  rw [List.getElem?_range hl] at hi
  have ei : l1.length = i := Option.some.inj hi
  refine ⟨of_decide_eq_true yes, fun j hj => ?_⟩
  have hj' : (List.range n)[j]? = some j := List.getElem?_range (by omega)
  rw [e, List.getElem?_append_left (by omega)] at hj'
  have m := no j (List.mem_of_getElem? hj')
  exact fun z => m (decide_eq_true z)
theorem pls_none {z y : Str} (y0 : 1 ≤ y.length) (h : pls z y z.length = []) : ∀ i, ¬ hit (cod y) (cod z) i := by
  intro i hi
  have l := hit_le hi (by rw [len_cod]; exact y0)
  rw [len_cod, len_cod] at l
  have m : i ∈ pls z y z.length := List.mem_filter.mpr ⟨List.mem_range.mpr (by omega), decide_eq_true hi⟩
  rw [h] at m
  cases m
theorem replL_none {w f : List Nat} : ∀ (n : Nat) (L : List Nat), L.length ≤ n → (∀ i, i < L.length → ¬ hit w L i) → StrLaws.replL w f L = L
  | _, [], _, _ => StrLaws.replL_nil
  | 0, c :: r, h, _ => by simp at h
  | n + 1, c :: r, h, no => by
    have h0 : ¬ List.take w.length (c :: r) = w := no 0 (by simp)
    rw [StrLaws.replL_miss h0, replL_none n r (by simpa using h) fun i hi z => no (i + 1) (by simpa using hi) z]
theorem replL_first {w f : List Nat} (w0 : 1 ≤ w.length) : ∀ (i : Nat) (L : List Nat), hit w L i → (∀ j, j < i → ¬ hit w L j) → StrLaws.replL w f L = L.take i ++ f ++ StrLaws.replL w f (L.drop (i + w.length))
  | 0, [], h, _ => by
    have := hit_le h w0
    rw [List.length_nil] at this
    omega
  | 0, c :: r, h, _ => by
    have hn : w ≠ [] := fun q => by rw [q] at w0; exact absurd w0 (by decide)
    have h : List.take w.length (c :: r) = w := h
    rw [StrLaws.replL_hit hn h, Nat.zero_add]
    rfl
  | i + 1, [], h, _ => by
    have := hit_le h w0
    rw [List.length_nil] at this
    omega
  | i + 1, c :: r, h, no => by
    have h0 : ¬ List.take w.length (c :: r) = w := no 0 (by omega)
    rw [StrLaws.replL_miss h0, replL_first w0 i r h fun j hj z => no (j + 1) (by omega) z]
    have e : i + 1 + w.length = i + w.length + 1 := by omega
    rw [e]
    rfl
theorem cod_from (z : Str) (i : Nat) (h : i ≤ z.length) : cod (cutS z (some (i : Int)) none) = (cod z).drop i := by
  show ((((cod z).drop (HT.sIx z.length 0 (some (i : Int)))).take (HT.sIx z.length z.length none - HT.sIx z.length 0 (some (i : Int)))).toArray).toList = _
  rw [HT.sIx_nat, HT.sIx_none]
  show ((cod z).drop (min i z.length)).take (z.length - min i z.length) = _
  rw [Nat.min_eq_left h]
  exact List.take_of_length_le (by rw [List.length_drop, len_cod]; exact Nat.le_refl _)
/-- every and first where there is no place, and at the first one -/
theorem olds_none {y f z : Str} (y0 : 1 ≤ y.length) (h : pls z y z.length = []) : Txt.replace z y f = z ∧ replN 1 z y f = z ∧ (!(Builtin.Str.occurrences z y 0 z.length 1).isEmpty) = false := by
  have no := pls_none y0 h
  refine ⟨cod_inj ?_, repl1_none y0 no, ?_⟩
  · have e : cod (Txt.replace z y f) = StrLaws.replL (cod y) (cod f) (cod z) := StrLaws.replace_list y0
    rw [e]
    exact replL_none _ _ (Nat.le_refl _) fun i _ => no i
  · rw [← Bool.not_eq_true, place_iff y0]
    rintro ⟨i, hi⟩
    exact no i hi
theorem olds_some {y f z : Str} {i : Nat} {r : List Nat} (y0 : 1 ≤ y.length) (h : pls z y z.length = i :: r) :
    i + y.length ≤ z.length ∧ Txt.replace z y f = (cutS z none (some (i : Int)) ++ f) ++ Txt.replace (cutS z (some ((i : Int) + (y.length : Int))) none) y f ∧ replN 1 z y f = (cutS z none (some (i : Int)) ++ f) ++ cutS z (some ((i : Int) + (y.length : Int))) none ∧ (!(Builtin.Str.occurrences z y 0 z.length 1).isEmpty) = true := by
  obtain ⟨hi, no⟩ := pls_head h
  have l := hit_le hi (by rw [len_cod]; exact y0)
  rw [len_cod, len_cod] at l
  have er : cod (cutS z (some ((i : Int) + (y.length : Int))) none) = (cod z).drop (i + y.length) := cod_from z (i + y.length) l
  refine ⟨l, cod_inj ?_, cod_inj ?_, (place_iff y0).mpr ⟨i, hi⟩⟩
  · have e : cod (Txt.replace z y f) = StrLaws.replL (cod y) (cod f) (cod z) := StrLaws.replace_list y0
    have e2 : cod (Txt.replace (cutS z (some ((i : Int) + (y.length : Int))) none) y f) = StrLaws.replL (cod y) (cod f) (cod (cutS z (some ((i : Int) + (y.length : Int))) none)) := StrLaws.replace_list y0
    rw [cod_add, cod_add, cod_pre, e, e2, er, replL_first (by rw [len_cod]; exact y0) i (cod z) hi no, len_cod]
  · rw [cod_add, cod_add, cod_pre, er, repl1_some (z := f) y0 hi no]
theorem flds_noP {c : Ch} : (flds c).lookup ("has_place" : Str) = none := by
  obtain ⟨i, a, b⟩ := c
  match i with
  | 0 => rfl
  | 1 => rfl
  | 2 => rfl
  | _ + 3 => rfl
theorem shaped_four {z : Str} (h : ∀ c ∈ cod z, Lt c) : SeqAt.shaped (.list [.str z, .str z, .bool false, .bool false]) = true := by
  have h1 : PyData.strOk z = true := by
    show z.cps.all (· < 0x110000) = true
    rw [← Array.all_toList, List.all_eq_true]
    exact fun c hc => decide_eq_true (Nat.lt_of_le_of_lt (h c hc).2.1 (by decide))
  unfold SeqAt.shaped
  have h2 : PyData.canLay0 (.list [.str z, .str z, .bool false, .bool false]) = true := by
    simp [PyData.canLay0, PyData.canLayAll0, h1]
  rw [h2]
  simp [PyData.depth, PyData.depthAll]
theorem eqv_four (z : Str) : PyData.eqv (.list [.str z, .str z, .bool false, .bool false]) (.list [.str z, .str z, .bool false, .bool false]) = true := by
  simp [PyData.eqv, PyData.eqvAll]
section
variable {P : Program} {w : World} {K : PySem.W.Frag} {mg : Str → Option Value} {base : Heap} {C : Nat → Addr}
theorem scOr : FnScope ["_law_was", "_law_fresh", "_law_row_here", "_law_every", "_law_first", "_law_spots", "_law_told", "_law_rest", "_law_tip"] ["_law_was", "_law_fresh", "_law_row_here"] (defScope sOr) := ⟨rfl, rfl, rfl, by decide +kernel, rfl, by decide +kernel, by decide +kernel⟩
/-- olds_right: raw texts whose tokens are out -/
def spOr : SpW := fun vs us s H Q _ => ∃ (y f z : Str) (t u : Tok) (uz : Value), vs = [.str y, .str f, .str z] ∧ us = [.str y t, .str f u, uz] ∧ TkOk y f t u ∧ shortB y = true ∧ newB f = true ∧ y.length ≤ 3 ∧ f.length ≤ 3 ∧ z.length ≤ 14 ∧ lineB z = true ∧
  ∀ s' H', Same H H' → Q (.bl true) (.bool true) s' H'
structure OldT (P : Program) (w : World) (K : PySem.W.Frag) (mg : Str → Option Value) (base : Heap) (C : Nat → Addr) (D : Addr) (I h p : Nat → Addr) (dI dh dp : Nat → FuncData) : Prop where
  n : NamT mg C
  m : MakC P w K mg base C D I dI
  c : ChD P w K mg base C h dh
  p0 : MetD P w K mg base (C 0) "has_place" (spPlace C 0) (p 0) (dp 0)
  p1 : MetD P w K mg base (C 1) "has_place" (spPlace C 1) (p 1) (dp 1)
theorem ok_Or {f fP D : Addr} {fd dP : FuncData} {I h p : Nat → Addr} {dI dh dp : Nat → FuncData} (F : Fun K "_law_olds_right" "_law_olds_right" sOr f fd) (O : OldT P w K mg base C D I h p dI dh dp) (mL : mg "len" = none) (PL : CallOf P w K mg base 1 "places" ["line", "word"] spPl fP dP) :
    FnRaw P w K mg base CX0 8 f fd ["_law_was", "_law_fresh", "_law_row_here"] spOr := by
  refine fun_raw F scOr (fun vs us s H Q E h => ?_) (fun cdv A outer s s1 H us vs Q E hr bg rv h => ?_)
  · obtain ⟨y, f, z, t, u, uz, rfl, _⟩ := h
    rfl
  · obtain ⟨y, f, z, t, u, uz, rfl, rfl, tk, sy, nf, y3, f3, hz, lz, q⟩ := h
    obtain ⟨m, hm, hv⟩ := bg.ns
    have m0 : m "_law_was" = some (.str y t) := hv 0 _ _ rfl rfl rfl
    have m1 : m "_law_fresh" = some (.str f u) := hv 1 _ _ rfl rfl rfl
    have hr1 : Room 1 _ := hr.mono (by decide)
    have hu0 := hr.units0
    refine ⟨_, pssw_cons (by exact (psw_par3 (i := 3) (j := 4) (l := 5) (by rfl) scOr.nd rfl rfl rfl (by decide) (by decide) (by decide) rfl rfl rfl rfl
          (paw_cons (pew_makeK O.m.m1.made O.m.m1.ok hr rfl O.n.n1 O.m.m1.b passN (paw_cons (pew_name (i := 0) rfl rfl) (paw_cons (pew_name (i := 1) rfl rfl) paw_nil)))
          (paw_cons (pew_makeK O.m.m0.made O.m.m0.ok hr rfl O.n.n0 O.m.m0.b passN (paw_cons (pew_name (i := 0) rfl rfl) (paw_cons (pew_name (i := 1) rfl rfl) paw_nil)))
          (paw_cons (PEK.pew (k_call PL.ok hr1 rfl PL.m PL.k PL.b pass0 (ka_cons (k_loc (i := 2) rfl rfl) (ka_cons (k_loc (i := 0) rfl rfl) ka_nil)))) paw_nil))) (by rfl)))
      (pssw_cons (by exact (psw_if (kt_cmp (ok_eqNil hu0) (k_loc (i := 5) rfl rfl) (k_lst ka_nil) (nomark _)).ptw
          (pssw_cons (by exact (PSW.of (ps_set (i := 6) scOr.nd rfl (.inl rfl) (pe_lst (pa_cons (pe_methA (pv 3) (O.c.cls 1 (by decide)) (O.c.d 1).m (O.c.d 1).ok hr1 (O.c.d 1).b .nil pass0 (pa_cons (pv 2) pa_nil)) (pa_cons (pe_methA (pv 4) (O.c.cls 0 (by decide)) (O.c.d 0).m (O.c.d 0).ok hr1 (O.c.d 0).b .nil pass0 (pa_cons (pv 2) pa_nil)) (pa_cons (pe_methA (pv 3) (O.c.cls 1 (by decide)) O.p1.m O.p1.ok hr1 O.p1.b .nil pass0 (pa_cons (pv 2) pa_nil)) (pa_cons (pe_methA (pv 4) (O.c.cls 0 (by decide)) O.p0.m O.p0.ok hr1 O.p0.b .nil pass0 (pa_cons (pv 2) pa_nil)) pa_nil))))))))
          (pssw_one (by exact (PSW.of (ps_ret (pe_cmpR (op_eqD hr.units) (pv 6) (pe_lst (pa_cons (pv 2) (pa_cons (pv 2) (pa_cons pe_bl (pa_cons pe_bl pa_nil))))) (nomark _))))))) pssw_nil))
      (pssw_cons (by exact (psw_set (i := 7) scOr.nd rfl rfl rfl (k_slice (k_loc (i := 2) rfl rfl) (ko_some (k_op ok_add_int (k_ixL (k_loc (i := 5) rfl rfl) k_int (fun _ _ => rfl)) (k_callB ck_len_str (by rfl) mL PySem.boot_len (ka_cons (k_loc (i := 0) rfl rfl) ka_nil)))) ko_none).pew))
      (pssw_cons (by exact (psw_set (i := 8) scOr.nd rfl rfl rfl (k_op ok_add_str (k_slice (k_loc (i := 2) rfl rfl) ko_none (ko_some (k_ixL (k_loc (i := 5) rfl rfl) k_int (fun _ _ => rfl)))) (k_loc (i := 1) rfl rfl)).pew))
      (pssw_cons (by exact (psw_if (PWK.pt (kw_or (kt_cmp ok_ne_str (k_meth (k_loc (i := 3) rfl rfl) (O.c.cls 1 (by decide)) (O.c.d 1).m (O.c.d 1).ok hr1 (O.c.d 1).b pass0 (ka_cons (k_loc (i := 2) rfl rfl) ka_nil)) (k_op ok_add_str (k_loc (i := 8) rfl rfl) (k_meth (k_loc (i := 3) rfl rfl) (O.c.cls 1 (by decide)) (O.c.d 1).m (O.c.d 1).ok hr1 (O.c.d 1).b pass0 (ka_cons (k_loc (i := 7) rfl rfl) ka_nil))) (nomark _))
          (kw_or1 (kt_cmp ok_ne_str (k_meth (k_loc (i := 4) rfl rfl) (O.c.cls 0 (by decide)) (O.c.d 0).m (O.c.d 0).ok hr1 (O.c.d 0).b pass0 (ka_cons (k_loc (i := 2) rfl rfl) ka_nil)) (k_op ok_add_str (k_loc (i := 8) rfl rfl) (k_loc (i := 7) rfl rfl)) (nomark _))))).ptw (pssw_one (by exact (PSW.of (ps_ret pe_bl)))) pssw_nil))
      (pssw_one (by exact (psw_ret (pew_and (k_meth (k_loc (i := 3) rfl rfl) (O.c.cls 1 (by decide)) O.p1.m O.p1.ok hr1 O.p1.b pass0 (ka_cons (k_loc (i := 2) rfl rfl) ka_nil)) (pew_and (k_meth (k_loc (i := 4) rfl rfl) (O.c.cls 0 (by decide)) O.p0.m O.p0.ok hr1 O.p0.b pass0 (ka_cons (k_loc (i := 2) rfl rfl) ka_nil))
          (pew_one (pew_cmpB op_eq (pew_methB (pew_makeK O.m.m1.made O.m.m1.ok hr rfl O.n.n1 O.m.m1.b passN (paw_cons (pew_name (i := 0) rfl rfl) (paw_cons (pew_name (i := 0) rfl rfl) paw_nil))) (O.c.cls 1 (by decide)) (O.c.d 1).m (O.c.d 1).ok hr1 (O.c.d 1).b pass0 (pa_cons (pv 2) pa_nil)) (pv 2) (nomark _)))))))))))), ?_⟩
    have y0 : 1 ≤ y.length := by
      unfold shortB wordB at sy
      rw [Bool.and_eq_true, Bool.and_eq_true] at sy
      exact of_decide_eq_true sy.1.2
    have ly : lineB y = true := lineB_short sy
    have lf : lineB f = true := by
      unfold newB at nf
      rw [Bool.and_eq_true] at nf
      exact nf.1
    have okc : ∀ i, i < 2 → ChOk ⟨i, y, f⟩ := fun i hi => ⟨(by show y.length < 100; omega), (by show f.length < 100; omega), fun _ => sy, fun _ => nf, fun e => absurd (show i = 2 from e) (by omega)⟩
    have okc2 : ChOk ⟨1, y, y⟩ := ⟨(by show y.length < 100; omega), (by show y.length < 100; omega), fun _ => sy, fun _ => by
      show (lineB y && decide (y.length ≤ 8)) = true
      rw [ly, decide_eq_true (by omega)]
      rfl, fun e => absurd (show 1 = 2 from e) (by decide)⟩
    have zs : z.length ≤ sizeLine := Nat.le_trans hz (by decide)
    have ys : y.length ≤ sizeLine := Nat.le_trans y3 (by decide)
    refine ⟨_, m, _, rfl, hm, m0, fun _ => ⟨_, m, _, rfl, hm, m1, fun _ => fun ea ed s2 na nd ne k2 => ⟨ea, ed, y, f, t, u, rfl, rfl, upd_same, .str _ (by omega), .str _ (by omega), fun _ _ s3 H3 k3 hE b3 => ⟨rfl, fun s4 k4 kp4 => ?_⟩, fun no => absurd sy (by rw [show shortB y = false from no]; decide), fun _ no => absurd nf (by rw [show newB f = false from no]; decide)⟩⟩⟩
    have sE := made_same2 na nd b3
    have hm4 := kp4.fr m hm
    refine ⟨_, m, _, rfl, hm4, m0, fun _ => ⟨_, m, _, rfl, hm4, m1, fun _ => fun fa fd' s5 nfa nfd nfe k5 => ⟨fa, fd', y, f, t, u, rfl, rfl, upd_same, .str _ (by omega), .str _ (by omega), fun _ _ s6 H6 k6 hF b6 => ⟨rfl, fun s7 k7 kp7 => ?_⟩, fun no => absurd sy (by rw [show shortB y = false from no]; decide), fun _ no => absurd nf (by rw [show newB f = false from no]; decide)⟩⟩⟩
    have sF := made_same2 nfa nfd b6
    have hE6 := hE.same sF
    refine ⟨_, rfl, _, rfl, z, y, rfl, by omega, y0, by omega, fun Dp H7 hD s67 => fun up s8 rp kp8 => ⟨_, _, _, _, _, _, rfl, rfl, fun s9 k9 f9 => ?_⟩⟩
    have hm9 := f9 m (kp8.fr m (kp7.fr m hm4))
    have e9 : (fun n => if n = ("_law_every" : Str) then some (Value.ref ea) else if n = "_law_first" then some (Value.ref fa) else if n = "_law_spots" then some up else m n) "_law_was" = some (.str y t) := m0
    generalize (fun n => if n = ("_law_every" : Str) then some (Value.ref ea) else if n = "_law_first" then some (Value.ref fa) else if n = "_law_spots" then some up else m n) = m9 at hm9 e9
    have hE7 := hE6.same s67
    have hF7 := hF.same s67
    have S7 : Same H H7 := (sE.trans sF).trans s67
    refine ⟨_, rfl, Nat.zero_le _, fun e ne' => ⟨Dp, e, _, rfl, rfl, (same_upd ne') _ _ hD, upd_same, _, rfl, fun s10 kp10 => ?_⟩⟩
    have s78 := same_upd (o := .lst []) ne'
    have hE8 := hE7.same s78
    have hF8 := hF7.same s78
    have hD8 := s78 _ _ hD
    have S8 := S7.trans s78
    generalize hH8 : upd H7 e (.lst []) = H8 at hE8 hF8 hD8 S8
    have caE : CA C H8 ⟨1, y, f⟩ (.ref ea) := ⟨by show 1 < 5; decide, ea, ed, rfl, .inl ⟨by show 1 < 2; decide, t, u, hE8, tk⟩⟩
    have caF : CA C H8 ⟨0, y, f⟩ (.ref fa) := ⟨by show 0 < 5; decide, fa, fd', rfl, .inl ⟨by show 0 < 2; decide, t, u, hF8, tk⟩⟩
    have z1 : z.length ≤ 10000 := by omega
    cases hp : pls z y z.length with
    | nil =>
      obtain ⟨o1, o2, o3⟩ := olds_none (f := f) y0 hp
      refine iteT ?_
      obtain ⟨a1, d1, x1, insE⟩ := caE.ins
      cases x1
      obtain ⟨a2, d2, x2, insF⟩ := caF.ins
      cases x2
      refine ⟨_, rfl, ea, d1, _, rfl, insE, flds_no, _, rfl, ⟨1, y, f⟩, _, z, rfl, caE, rfl, okc 1 (by decide), z1, fun H9 s89 => ?_⟩
      refine ⟨_, rfl, fa, d2, _, rfl, insF.same s89, flds_no, _, rfl, ⟨0, y, f⟩, _, z, rfl, caF.same s89, rfl, okc 0 (by decide), z1, fun H10 s910 => ?_⟩
      have s8 := s89.trans s910
      refine ⟨_, rfl, ea, d1, _, rfl, insE.same s8, flds_noP, _, rfl, ⟨1, y, f⟩, _, z, rfl, caE.same s8, rfl, ?_⟩
      refine ⟨_, rfl, fa, d2, _, rfl, insF.same s8, flds_noP, _, rfl, ⟨0, y, f⟩, _, z, rfl, caF.same s8, rfl, (by show 4 ≤ sizeLine; decide), fun L nL => ?_⟩
      have v1 : Ch.done ⟨1, y, f⟩ z = z := o1
      have v2 : Ch.done ⟨0, y, f⟩ z = z := o2
      have v3 : Ch.place ⟨1, y, f⟩ z = false := o3
      have v4 : Ch.place ⟨0, y, f⟩ z = false := o3
      rw [v1, v2, v3, v4]
      refine fun s11 k11 => ?_
      refine ⟨_, rfl, _, rfl, _, rfl, (by show 4 ≤ sizeLine; decide), fun L2 nL2 => ?_⟩
      have sL2 := same_upd (o := .lst [.str z, .str z, .bl false, .bl false]) nL2
      have sh := shaped_four (lineB_of.mp lz)
      refine ⟨.list [.str z, .str z, .bool false, .bool false], .list [.str z, .str z, .bool false, .bool false], .lst (SqL.of (sL2 _ _ upd_same)) (.cons (.str _) (.cons (.str _) (.cons (.bl _) (.cons (.bl _) .nil)))), .lst (SqL.of upd_same) (.cons (.str _) (.cons (.str _) (.cons (.bl _) (.cons (.bl _) .nil)))), sh, sh, ?_⟩
      rw [eqv_four]
      intro u s' ru _
      cases ru
      exact q _ _ (((S8.trans s8).trans (same_upd nL)).trans sL2)
    | cons i r =>
      obtain ⟨il, o1, o2, o3⟩ := olds_some (f := f) y0 hp
      refine iteF ?_
      obtain ⟨a1, d1, x1, insE⟩ := caE.ins
      cases x1
      obtain ⟨a2, d2, x2, insF⟩ := caF.ins
      cases x2
      rw [hp] at hD8
      have g0 : (intL (i :: r))[0]? = some (V.int (i : Int)) := rfl
      have il' : i ≤ z.length := by omega
      have lr : (cutS z (some ((i : Int) + (y.length : Int))) none).length ≤ z.length := cutS_length z _ _
      have lt' : (cutS z none (some (i : Int))).length ≤ z.length := cutS_length z _ _
      have lrep : (Txt.replace z y f).length ≤ 42 := by
        have e : cod (Txt.replace z y f) = StrLaws.replL (cod y) (cod f) (cod z) := StrLaws.replace_list y0
        have l := replL_len (y := cod y) (z := cod f) (by rw [len_cod]; exact y0) (cod z).length (cod z) (Nat.le_refl _)
        rw [← len_cod, e]
        rw [len_cod, len_cod] at l
        have mm : z.length * max 1 f.length ≤ 14 * 3 := Nat.mul_le_mul hz (by omega)
        omega
      refine ⟨_, rfl, _, rfl, Dp, _, 0, _, rfl, rfl, hD8, g0, _, rfl, y, rfl, ys, _, _, rfl, rfl, _, rfl, z, rfl, zs, fun u11 s11 r11 kp11 => fun s12 k12 f12 => ?_⟩
      refine ⟨_, rfl, _, rfl, Dp, _, 0, _, rfl, rfl, hD8, g0, _, rfl, z, rfl, zs, _, rfl, _, _, rfl, rfl, Nat.le_trans (show _ ≤ 100 by omega) (by decide), fun u13 s13 r13 kp13 => fun s14 k14 f14 => ?_⟩
      have hm14 := f14 _ (kp13.fr _ (f12 _ (kp11.fr _ (kp10.fr m9 hm9))))
      have e14 : (fun y_1 => if y_1 = ("_law_tip" : Str) then some u13 else (fun y_1 => if y_1 = ("_law_rest" : Str) then some u11 else m9 y_1) y_1) "_law_was" = some (.str y t) := e9
      generalize (fun y_1 => if y_1 = ("_law_tip" : Str) then some u13 else (fun y_1 => if y_1 = ("_law_rest" : Str) then some u11 else m9 y_1) y_1) = m14 at hm14 e14
      refine ⟨_, rfl, ea, d1, _, rfl, insE, flds_no, _, rfl, ⟨1, y, f⟩, _, z, rfl, caE, rfl, okc 1 (by decide), z1, fun H9 s89 => ?_⟩
      refine ⟨_, rfl, _, rfl, ea, d1, _, rfl, insE.same s89, flds_no, _, rfl, ⟨1, y, f⟩, _, _, rfl, caE.same s89, rfl, okc 1 (by decide), by omega, fun H10 s910 => ?_⟩
      have s8 := s89.trans s910
      have lsum := congrArg Str.length o1
      rw [len_add] at lsum
      refine ⟨_, _, rfl, rfl, ?_, _, _, rfl, rfl, _, rfl, ?_⟩
      · show _ + (Txt.replace (cutS z (some ((i : Int) + (y.length : Int))) none) y f).length ≤ sizeLine
        exact Nat.le_trans (show _ ≤ 42 by omega) (by decide)
      have v1 : Ch.done ⟨1, y, f⟩ z = (cutS z none (some (i : Int)) ++ f) ++ Ch.done ⟨1, y, f⟩ (cutS z (some ((i : Int) + (y.length : Int))) none) := o1
      have v2 : Ch.done ⟨0, y, f⟩ z = (cutS z none (some (i : Int)) ++ f) ++ cutS z (some ((i : Int) + (y.length : Int))) none := o2
      rw [decide_eq_true v1]
      refine iteF ?_
      refine ⟨_, rfl, fa, d2, _, rfl, insF.same s8, flds_no, _, rfl, ⟨0, y, f⟩, _, z, rfl, caF.same s8, rfl, okc 0 (by decide), z1, fun H11 s1011 => ?_⟩
      have s8' := s8.trans s1011
      refine ⟨_, rfl, _, rfl, _, _, rfl, rfl, ?_, _, _, rfl, rfl, _, rfl, ?_⟩
      · rw [len_add]
        exact Nat.le_trans (show _ ≤ 100 by omega) (by decide)
      rw [decide_eq_true v2]
      refine fun s15 kp15 => iteF ?_
      have v3 : Ch.place ⟨1, y, f⟩ z = true := o3
      have v4 : Ch.place ⟨0, y, f⟩ z = true := o3
      refine ⟨_, rfl, ea, d1, _, rfl, insE.same s8', flds_noP, _, rfl, ⟨1, y, f⟩, _, z, rfl, caE.same s8', rfl, _, rfl, fun s16 kp16 => ?_⟩
      rw [v3]
      refine iteT ?_
      refine ⟨_, rfl, fa, d2, _, rfl, insF.same s8', flds_noP, _, rfl, ⟨0, y, f⟩, _, z, rfl, caF.same s8', rfl, _, rfl, fun s17 kp17 => ?_⟩
      rw [v4]
      refine iteT ?_
      have hm17 := kp17.fr _ (kp16.fr _ (kp15.fr _ hm14))
      refine ⟨_, m14, _, rfl, hm17, e14, fun _ => ⟨_, m14, _, rfl, hm17, e14, fun _ => fun ga gd s18 nga ngd nge k18 => ⟨ga, gd, y, y, t, t, rfl, rfl, upd_same, .str _ (by omega), .str _ (by omega), fun _ _ s19 H12 k19 hG b12 => ⟨rfl, fun s20 k20 kp20 => ?_⟩, fun no => absurd sy (by rw [show shortB y = false from no]; decide), fun _ no => ?_⟩⟩⟩
      · have sG := made_same2 nga ngd b12
        have caG : CA C H12 ⟨1, y, y⟩ (.ref ga) := ⟨by show 1 < 5; decide, ga, gd, rfl, .inl ⟨by show 1 < 2; decide, t, t, hG, ⟨tk.l, tk.l, fun _ => rfl⟩⟩⟩
        obtain ⟨a3, d3, x3, insG⟩ := caG.ins
        cases x3
        refine ⟨ga, d3, _, rfl, insG, flds_no, _, rfl, ⟨1, y, y⟩, _, z, rfl, caG, rfl, okc2, z1, fun H13 s1213 => fun u21 s21 r21 => ⟨_, rfl, rfl, fun u22 s22 r22 => ?_⟩⟩
        have v5 : Ch.done ⟨1, y, y⟩ z = z := by
          show Txt.replace z y y = z
          rw [← replN_all]
          exact replN_self _ _ _
        have v6 : decide (V.str (Ch.done ⟨1, y, y⟩ z) = V.str z) = true := by rw [v5]; exact decide_eq_true rfl
        rw [v6] at r22 ⊢
        cases r22
        exact q _ _ (((S8.trans s8').trans sG).trans s1213)
      · have : newB y = true := okc2.new (show 1 < 2 by decide)
        exact absurd this (by rw [show newB y = false from no]; decide)
end
end LA
end
section
set_option Elab.async false
set_option linter.all false
set_option maxRecDepth 100000
set_option maxHeartbeats 4100000
namespace XO
open PySem PySem.Spec PyProof.Rows L2
/-! ### == and != by an own __eq__ that gives either truth -/
section
variable {X : Cx} {CX : CXT} {n : Nat} {C f : Addr} {fd : FuncData} {ps : List Str} {sp : Sp} {E : XK}
/-- the own __eq__ is called, from within -/
theorem eq_runs {A : Around} {pins : List (Addr × Obj)} {s : Shared} {σ : L2.St} {H : Hp} {a : Addr} {y : V} {v : Value} {q : Bool → Hp → Prop} {R : Value → Shared → Prop} (F : FnOk X.prog X.w X.K X.mg X.base CX n f fd ps sp) (hb : Binds X.K fd ps []) (hx : Passes CX X E)
    (room : Room n A) (fr : A.frames = X.A.frames) (I : Inv X pins σ H s) (ry : RelV y v) (want : sp [.ref a, y] H (fun z H' => ∃ b, z = .bl b ∧ q b H') E) (fin : ∀ b s' H', Inv X pins σ H' s' → q b H' → R (.bool b) s') :
    wpAny (model X.prog X.w) A (call (.ref f) [.ref a, v]) R X.xe s := by
  have e0 : Env0 X.prog X.w X.K X.mg X.base A X.stack s H := by
    have e := I.env0
    exact ⟨by rw [fr]; exact e.frames, e.mod, e.bs, e.bsz, e.funs, e.frf, e.hok, e.bare⟩
  have hl := F.len _ _ _ _ want
  have r2 : Vals [V.ref a, y] [Value.ref a, v] := .cons rfl (.cons ry .nil)
  refine wpAny_call (codeAny_mono (F.run A X.stack s H ⟨[.ref a, v], []⟩ [.ref a, v] [.ref a, y] _ E room e0 (by
    have := hb s [.ref a, v] I.kIn (by simpa using hl)
    simpa using this) r2 want) fun r s' res => ?_)
  cases r with
  | error e => exact hx pins σ H s e s' I res
  | ok fl =>
    cases fl with
    | ret w =>
      obtain ⟨z, H', I', rz, b, rfl, ez⟩ := I.after res
      obtain rfl : w = Value.bool b := rz
      exact fin b s' H' I' ez
    | next => exact False.elim res
    | brk => exact False.elim res
    | cont => exact False.elim res
/-- the reading of x == y and of x != y, x an instance of the class at C -/
def rOwnE (K : PySem.W.Frag) (C : Addr) (sp : Sp) (E : XK) (neg : Bool) : R2 := fun x y H Q => ∃ a dx fs t, x = .ref a ∧ H a = some (.ins C dx fs) ∧ TyX K H y t ∧ PySem.W.notFirst K C t = true ∧ sp [.ref a, y] H (fun z H' => ∃ b, z = .bl b ∧ Q (.bl (b != neg)) H') E
theorem op_own (F : FnOk X.prog X.w X.K X.mg X.base CX n f fd ps sp) (hs : PySem.W.findIn X.K (.ref C) "__eq__" = some (some (.ref f))) (hf : PySem.W.isFn X.K (.ref f) = true) (hb : Binds X.K fd ps []) (hx : Passes CX X E) (room : Room n X.A) :
    OpR X (compareOp .Eq) (rOwnE X.K C sp E false) := by
  intro pins s σ H x y v u Q I rx ry want
  obtain ⟨a, dx, fs, t, rfl, ha, ty, nf, rd⟩ := want
  cases rx
  obtain ⟨mA, J, _⟩ := ins_get I.hok ha
  obtain ⟨od, J, _⟩ := J.look
  obtain ⟨m, hF⟩ := I.fr
  obtain ⟨Pz, Z, pz, _⟩ := kit_of I ry ty
  show wpAny (model X.prog X.w) X.A (richCompare .Eq (.ref a) u) (EP X pins σ Q) X.xe s
  refine PySem.W.cmp_K (op := .Eq) (tb := t) room.units0 hF I.ok.mod.kin J (Z.ty _ _ I.kIn pz) nf hs hf ?_
  refine eq_runs F hb hx room rfl I ry rd fun b s' H' I' q => ?_
  refine ⟨.bl b, H', I', rfl, ?_⟩
  have e : (b != false) = b := by cases b <;> rfl
  rw [← e]
  exact q
theorem op_ownNe (F : FnOk X.prog X.w X.K X.mg X.base CX n f fd ps sp) (hs : PySem.W.findIn X.K (.ref C) "__eq__" = some (some (.ref f))) (hf : PySem.W.isFn X.K (.ref f) = true) (hb : Binds X.K fd ps []) (hx : Passes CX X E) (room : Room (n + 1) X.A)
    (ne : PySem.W.findIn X.K (.ref C) "__ne__" = some (some (.builtin "object.__ne__"))) (ob : PySem.W.mroIn X.K C (.type "object") = some true) : OpR X (compareOp .NotEq) (rOwnE X.K C sp E true) := by
  intro pins s σ H x y v u Q I rx ry want
  obtain ⟨a, dx, fs, t, rfl, ha, ty, nf, rd⟩ := want
  cases rx
  obtain ⟨mA, J, _⟩ := ins_get I.hok ha
  obtain ⟨od, J, _⟩ := J.look
  obtain ⟨Pz, Z, pz, _⟩ := kit_of I ry ty
  have kI := I.kIn
  have L0 : PySem.W.Looks (model X.prog X.w) s.heap (typeOf (.ref a)) (.ref C) := J.type
  have Lb := Z.ty (model X.prog X.w) _ kI pz
  have sub : PySem.W.Looks (model X.prog X.w) s.heap (isInstance (.ref a) (.type "object")) true := L0.andThen (PySem.W.looks_mroIn kI ob)
  have slot : wpAny (model X.prog X.w) X.A (call (.builtin "object.__ne__") [.ref a, u]) (fun z s' => ∃ b, z = Value.bool b ∧ ∃ H', Inv X pins σ H' s' ∧ Q (.bl b) H') X.xe s := by
    refine wpAny_call (codeAny_call_builtin PySem.F.cmp_object.ne.plain PySem.F.cmpEntry_ne (PySem.W.check_slot PySem.F.cmpKind_ne PySem.F.cmpSplit_ne sub (PySem.F.cmpArgs_ne _ _) ?_))
    have own : wpAny (model X.prog X.w) X.A.in1 (callSpecialIfBound? (.ref a) (Str.ofString "__eq__") [u]) (fun z s' => ∃ b, z = some (Value.bool b) ∧ ∃ H', Inv X pins σ H' s' ∧ Q (.bl (b != true)) H') X.xe s := by
      refine PySem.W.ifBound_K kI J hs hf (eq_runs F hb hx room.in1 rfl I ry rd fun b s' H' I' q => ⟨b, rfl, H', I', q⟩)
    unfold Builtin.«object.__ne__»
    refine wpAny_bind (wpAny_of_eq (a := ((Value.ref a : Value), [u])) (by first | rfl | (simp only [slotArgs]; rfl)) ?_)
    refine wpAny_bind (wpAny_cRoomFor room.in1.units0 ?_)
    refine wpAny_bind (wpAny_mono own (fun z s' hz => ?_) fun _ _ e => e)
    obtain ⟨b, rfl, H', I', q⟩ := hz
    refine wpAny_bind (wpAny_truthy_bool ?_)
    refine wpAny_pure ?_
    refine ⟨!b, rfl, H', I', ?_⟩
    have e : (b != true) = !b := by cases b <;> rfl
    rw [← e]
    exact q
  have one : wpAny (model X.prog X.w) X.A (tryCompare (.ref a) "__ne__" u) (fun z s' => ∃ b, z = some (Value.bool b) ∧ ∃ H', Inv X pins σ H' s' ∧ Q (.bl b) H') X.xe s := by
    unfold tryCompare
    have got : wpAny (model X.prog X.w) X.A (callSpecialIfBound? (.ref a) "__ne__" [u]) (fun z s' => ∃ b, z = some (Value.bool b) ∧ ∃ H', Inv X pins σ H' s' ∧ Q (.bl b) H') X.xe s := by
      simp only [callSpecialIfBound?, bindSpecialIfBound?]
      refine wpAny_holding (wpAny_bind (wpAny_bind (wpAny_bind (L0.here ((PySem.W.looks_findIn kI ne).here ?_)))))
      refine wpAny_bind (wpAny_askSetting (wpAny_ite ?_))
      have fin : wpAny (model X.prog X.w) X.A (call (.builtin "object.__ne__") ([.ref a] ++ [u]) >>= fun v => pure (some v)) (fun z s' => ∃ b, z = some (Value.bool b) ∧ ∃ H', Inv X pins σ H' s' ∧ Q (.bl b) H') X.xe s :=
        wpAny_bind (wpAny_mono slot (fun z s' hz => by
          obtain ⟨b, rfl, k⟩ := hz
          exact wpAny_pure ⟨b, rfl, k⟩) fun _ _ e => e)
      split
      · rw [PySem.F.cmp_object.ne.bind]
        exact wpAny_bind (wpAny_pure (wpAny_pure (by exact fin)))
      · rw [PySem.F.cmp_object.ne.bind]
        exact wpAny_tryCatch (wpAny_bind (wpAny_pure (wpAny_pure (by exact fin))))
    refine wpAny_bind (wpAny_mono got (fun z s' hz => ?_) fun _ _ e => e)
    obtain ⟨b, rfl, k⟩ := hz
    exact wpAny_pure ⟨b, rfl, k⟩
  show wpAny (model X.prog X.w) X.A (richCompare .NotEq (.ref a) u) (EP X pins σ Q) X.xe s
  unfold richCompare
  simp only [oneThing_ref]
  refine wpAny_holding (wpAny_bind (wpAny_cRoomFor room.units0 ?_))
  refine wpAny_bind (L0.here (wpAny_bind (Lb.here ?_)))
  have last : wpAny (model X.prog X.w) X.A (tryCompare (.ref a) "__ne__" u) (fun r s' => ∃ v, r = some v ∧ EP X pins σ Q v s') X.xe s := wpAny_mono one (fun z s' hz => by
    obtain ⟨b, rfl, H', I', q⟩ := hz
    exact ⟨_, rfl, .bl b, H', I', rfl, q⟩) fun _ _ e => e
  split
  · rename_i q
    have e : PySem.W.subIn X.K t (.ref C) = some false := by
      rcases Bool.or_eq_true_iff.mp nf with e | e
      · rw [beq_iff_eq.mp e] at q
        simp at q
      · exact beq_iff_eq.mp e
    refine wpAny_bind ((PySem.W.looks_subIn kI e).here ?_)
    simp only [Bool.false_eq_true, if_false]
    refine wpAny_bind (wpAny_mono last (fun r s' z => ?_) fun _ _ e => e)
    obtain ⟨v, rfl, hq⟩ := z
    exact wpAny_pure hq
  · refine wpAny_bind (wpAny_pure ?_)
    simp only [Bool.false_eq_true, if_false]
    refine wpAny_bind (wpAny_mono last (fun r s' z => ?_) fun _ _ e => e)
    obtain ⟨v, rfl, hq⟩ := z
    exact wpAny_pure hq
end
end XO
end
section
set_option Elab.async false
set_option linter.all false
set_option maxRecDepth 100000
set_option maxHeartbeats 1000000
namespace LnX
open PySem PySem.Spec PyProof.Rows L2 PySem.SeqAt SmX
section
variable {X : Cx} {CX : CXT} {n : Nat} {C f : Addr} {fd : FuncData} {ps : List Str} {sp : Sp} {E : XK}
/-- len(x), x an instance of the class at C, by its own __len__ -/
theorem call_lenO (F : FnOk X.prog X.w X.K X.mg X.base CX n f fd ps sp) (hs : PySem.W.findIn X.K (.ref C) "__len__" = some (some (.ref f))) (hf : PySem.W.isFn X.K (.ref f) = true) (hb : Binds X.K fd ps []) (hx : Passes CX X E) (room : Room (n + 1) X.A) :
    CallR X (.builtin "len") (fun xs H Q => ∃ a dx fs, xs = [.ref a] ∧ H a = some (.ins C dx fs) ∧ sp [.ref a] H (fun z H' => ∃ k : Nat, z = .int (k : Int) ∧ k < 1000000 ∧ Q (.int (k : Int)) H') E) := by
  intro pins s σ H xs us Q I r want
  obtain ⟨a, dx, fs, rfl, ha, q⟩ := want
  obtain ⟨u, rfl, ru⟩ := vals1 r
  obtain rfl : u = Value.ref a := ru
  obtain ⟨mA, J, _⟩ := ins_get I.hok ha
  obtain ⟨od, J, _⟩ := J.look
  obtain ⟨m, hF⟩ := I.fr
  refine PySem.W.len_K hF I.ok.mod.kin J hs hf ?_
  have r2 : Vals [V.ref a] [Value.ref a] := .cons rfl .nil
  have hl := F.len _ _ _ _ q
  have e0 : Env0 X.prog X.w X.K X.mg X.base X.A.in1 X.stack s H := by
    have e := I.env0
    exact ⟨e.frames, e.mod, e.bs, e.bsz, e.funs, e.frf, e.hok, e.bare⟩
  refine wpAny_call (codeAny_mono (F.run X.A.in1 X.stack s H ⟨[.ref a], []⟩ [.ref a] [.ref a] _ E room.in1 e0 (by
    have := hb s [.ref a] I.kIn (by simpa using hl)
    simpa using this) r2 q) fun r s' res => ?_)
  cases r with
  | error e => exact hx pins σ H s e s' I res
  | ok fl =>
    cases fl with
    | ret w =>
      obtain ⟨z, H', I', rz, k, rfl, kl, q3⟩ := I.after res
      obtain ⟨t, rfl⟩ := rz
      exact ⟨⟨by omega, by omega⟩, .int (k : Int), H', I'.tok _, ⟨_, rfl⟩, q3⟩
    | next => exact False.elim res
    | brk => exact False.elim res
    | cont => exact False.elim res
/-- == of a tuple of objects with one of the same, or with the empty one -/
def rTup : R2 := fun x y H Q => ∃ a b xs ys, x = .ref a ∧ y = .ref b ∧ (∀ x ∈ xs, ∃ c, x = V.ref c) ∧ H a = some (.tup xs) ∧ H b = some (.tup ys) ∧ ((ys = xs ∧ Q (.bl true) H) ∨ (ys = [] ∧ xs ≠ [] ∧ Q (.bl false) H))
theorem op_tup (hu : X.A.units < cLine) : OpR X (compareOp .Eq) rTup := by
  intro pins s σ H x y v u Q I rx ry h
  obtain ⟨a, b, xs, ys, rfl, rfl, rr, ha, hb, ⟨rfl, q⟩ | ⟨rfl, ne, q⟩⟩ := h
  · exact op_same hu pins s σ H _ _ v u Q I rx ry ⟨a, b, ys, rfl, rfl, rr, .inl ⟨ha, hb⟩, q⟩
  · obtain rfl : v = Value.ref a := rx
    obtain rfl : u = Value.ref b := ry
    obtain ⟨i1, r1, p1, _⟩ := I.tuple (SqT.of ha)
    obtain ⟨i2, r2, p2, _⟩ := I.tuple (SqT.of hb)
    cases r2
    have l1 := r1.length
    refine eq_tupleAt (e := fun _ => true) (show s.heap.IsTuple a i1.toArray from p1) (show s.heap.IsTuple b #[] from p2) hu (fun j h1 h2 => absurd h2 (Nat.not_lt_zero _)) (fin_bl I q ?_)
    cases i1 with
    | nil =>
      cases xs with
      | nil => exact absurd rfl ne
      | cons => simp at l1
    | cons i r => simp
/-- a list held against an empty one -/
def rNil (neg : Bool) : R2 := fun x y H Q => ∃ a b xs, x = .ref a ∧ y = .ref b ∧ H a = some (.lst xs) ∧ H b = some (.lst []) ∧ Q (.bl (xs.isEmpty != neg)) H
theorem op_nil (hu : X.A.units < cLine) : OpR X (compareOp .Eq) (rNil false) := by
  intro pins s σ H x y v u Q I rx ry h
  obtain ⟨a, b, xs, rfl, rfl, ha, hb, q⟩ := h
  obtain rfl : v = Value.ref a := rx
  obtain rfl : u = Value.ref b := ry
  obtain ⟨i1, r1, p1, _⟩ := I.list (SqL.of ha)
  obtain ⟨i2, r2, p2, _⟩ := I.list (SqL.of hb)
  cases r2
  have l1 := r1.length
  cases xs with
  | nil =>
    cases r1
    exact eq_listAt (e := fun _ => true) p1.isList p2.isList rfl hu (fun j h1 h2 => absurd h2 (Nat.not_lt_zero _)) (fin_bl I q (by simp))
  | cons z r =>
    cases i1 with
    | nil => simp at l1
    | cons i t => exact eq_list_lengthsAt p1.isList p2.isList (by simp) hu (fin_bl I q (by simp))
theorem op_nilNe (hu : X.A.units < cLine) : OpR X (compareOp .NotEq) (rNil true) := by
  intro pins s σ H x y v u Q I rx ry h
  obtain ⟨a, b, xs, rfl, rfl, ha, hb, q⟩ := h
  obtain rfl : v = Value.ref a := rx
  obtain rfl : u = Value.ref b := ry
  obtain ⟨i1, r1, p1, _⟩ := I.list (SqL.of ha)
  obtain ⟨i2, r2, p2, _⟩ := I.list (SqL.of hb)
  cases r2
  have l1 := r1.length
  cases xs with
  | nil =>
    cases r1
    exact RcNeAt.lists (e := fun _ => true) p1.isList p2.isList rfl hu (fun j h1 h2 => absurd h2 (Nat.not_lt_zero _)) _ _ _ _ (fin_bl I q (by simp))
  | cons z r =>
    cases i1 with
    | nil => simp at l1
    | cons i t => exact RcNeAt.lists_lengths p1.isList p2.isList (by simp) hu _ _ _ _ (fin_bl I q (by simp))
end
end LnX
end
section
set_option Elab.async false
set_option linter.all false
set_option maxRecDepth 100000
set_option maxHeartbeats 4000000
namespace LA
open PySem PySem.Spec PyProof.Rows L2 XS XT XK XW LnX
/-! ### shuffled -/
theorem perm_erase {α : Type} : ∀ (l : List α) (k : Nat) (h : k < l.length), (l[k] :: l.eraseIdx k).Perm l
  | [], k, h => absurd h (Nat.not_lt_zero _)
  | x :: r, 0, h => List.Perm.refl _
  | x :: r, k + 1, h => (List.Perm.swap x (r[k]'(Nat.lt_of_succ_lt_succ h)) (r.eraseIdx k)).trans ((perm_erase r k (Nat.lt_of_succ_lt_succ h)).cons x)
abbrev sShf : Stmt := top 27
abbrev nShf : List Str := ["_law_pen_here", "_law_items", "_law_left", "_law_found"]
theorem scShf : FnScope nShf ["_law_pen_here", "_law_items"] (defScope sShf) := ⟨rfl, rfl, rfl, by decide +kernel, rfl, by decide +kernel, by decide +kernel⟩
def spShf : Sp := fun vs H Q _ => ∃ (d c L : Addr) (n : Int) (ns : List Int) (us : List V), vs = [.ref d, .ref L] ∧ PenAt H d c n ns ∧ n + 200 < 1000000 ∧ H L = some (.lst us) ∧ us.length ≤ 150 ∧
  ∀ (R : Addr) (ws : List V) (H' : Hp), H' R = some (.lst ws) → ws.Perm us → PenAt H' d c (n + 200) ns → H R = none → But d H H' → Q (.ref R) H'
theorem while_via {c : TT} {tb : TS} {D : Ends} {σ : L2.St} {H : Hp} (Z : L2.St → Hp → Prop) (hz : ∀ σ H, Z σ H → D.nx σ H) (W : Nat → L2.St → Hp → Prop) (w0 : ∃ m, W m σ H)
    (turn : ∀ Nx : L2.St → Hp → Prop, (∀ σ H, Z σ H → Nx σ H) → ∀ m σ H, W m σ H → c σ H fun b H1 => if b = true then ∃ N : L2.St → Hp → Prop, (∀ σ' H', N σ' H' → ∃ m', m' < m ∧ W m' σ' H') ∧ tb { D with nx := N, ct := N, bk := Nx } σ H1 else Nx σ H1) : tWhile c tb D σ H :=
  ⟨W, w0, turn D.nx hz⟩
section
variable {P : Program} {w : World} {K : PySem.W.Frag} {mg : Str → Option Value} {base : Heap} {CC : Nat → Addr}
theorem ok_Shf {f fDR : Addr} {fd dDR : FuncData} (F : Fun K "_law_shuffled" "_law_shuffled" sShf f fd) (mLi : mg "list" = none) (mL : mg "len" = none) (DR : DrawAt P w K mg base fDR dDR) : FnOk P w K mg base CX0 2 f fd ["_law_pen_here", "_law_items"] spShf := by
  refine F.ok scShf (fun vs H Q E h => ?_) (fun cdv A outer s H vs Q E hr h => ?_)
  · obtain ⟨d, c, L, n, ns, us, rfl, _⟩ := h
    rfl
  · obtain ⟨d, c, L, n, ns, us, rfl, pen, hn, hL, few, q⟩ := h
    have hu0 := hr.units0
    refine ⟨_, pss_cons (by exact (ps_par (i := 2) (j := 3) (by rfl) scShf.nd rfl rfl (by decide) rfl rfl (pa_cons (pe_callTy call_list_of (by rfl) mLi (by decide +kernel) (pa_cons (pv 1) pa_nil)) (pa_cons (pe_lst pa_nil) pa_nil)) (by rfl)))
      (pss_cons (by exact (ps_while PassesOwn.never (pt_cmpR (op_nilNe hu0) (pv 2) (pe_lst pa_nil) (nomark _)) (pss_one (by exact (ps_expr (pe_bm PySem.F.plainAttrs_list PySem.F.slot_list_append PySem.F.type_list_append mt_append (pv 3) (pa_cons (pe_bm PySem.F.plainAttrs_list PySem.F.slot_list_pop PySem.F.type_list_pop mt_popAt (pv 2) (pa_cons (pe_call DR.ok hr rfl DR.m DR.k DR.b .nil pass0 (pa_cons (pv 0) (pa_cons (pe_callB call_len_seq (by rfl) mL PySem.boot_len (pa_cons (pv 2) pa_nil)) pa_nil))) pa_nil)) pa_nil)))))))
      (pss_one (by exact (ps_ret (pv 3))))), ?_⟩
    refine ⟨_, rfl, L, _, rfl, .inl (SqL.of hL), fun Ll nLl => ⟨Nat.zero_le _, fun Lf nLf => ⟨_, _, rfl, ?_⟩⟩⟩
    have s1 := same_upd (o := .lst us) nLl
    have s2 := s1.trans (same_upd (o := .lst []) nLf)
    have hLl : (upd (upd H Ll (.lst us)) Lf (.lst [])) Ll = some (.lst us) := (same_upd nLf) _ _ upd_same
    have hLf : (upd (upd H Ll (.lst us)) Lf (.lst [])) Lf = some (.lst []) := upd_same
    have nfl : Lf ≠ Ll := fun e => by rw [e, upd_same] at nLf; cases nLf
    obtain ⟨kv, hd⟩ := pen.dict
    have nLld : Ll ≠ d := fun e => by rw [e, hd] at nLl; cases nLl
    have nLlc : Ll ≠ c := fun e => by
      obtain ⟨_, _, _, pp⟩ := pen
      rw [e, pp.cs] at nLl
      cases nLl
    have nH1 : ∀ b o, H b = some o → b ≠ Ll := fun b o e z => by rw [z, nLl] at e; cases e
    have nLfH : H Lf = none := fresh_back s1 nLf
    have nH2 : ∀ b o, H b = some o → b ≠ Lf := fun b o e z => by rw [z, nLfH] at e; cases e
    have nLfd : Lf ≠ d := fun e => by rw [e, hd] at nLfH; cases nLfH
    have nLfc : Lf ≠ c := fun e => by
      obtain ⟨_, _, _, pp⟩ := pen
      rw [e, pp.cs] at nLfH
      cases nLfH
    have pen2 := pen.keep s2
    generalize upd (upd H Ll (.lst us)) Lf (.lst []) = H2 at s2 hLl hLf pen2 ⊢
    clear s1 nLf nLl
    refine while_via (fun σ Y => σ = [some (.ref d), some (.ref L), some (.ref Ll), some (.ref Lf)] ∧ ∃ ws, Y Lf = some (.lst ws) ∧ ws.Perm us ∧ PenAt Y d c (n + 200) ns ∧ But d H Y) (fun σ Y z => ?_)
      (fun m σ Y => σ = [some (.ref d), some (.ref L), some (.ref Ll), some (.ref Lf)] ∧ ∃ ls ws, m = ls.length ∧ Y Ll = some (.lst ls) ∧ Y Lf = some (.lst ws) ∧ (ws ++ ls).Perm us ∧ PenAt Y d c (n + ws.length) ns ∧ But d H Y)
      ⟨us.length, rfl, us, [], rfl, hLl, hLf, List.Perm.refl _, (pen2).le (by omega), But.same s2⟩ (fun Nx hN m σ Y z => ?_)
    · obtain ⟨rfl, ws, hw, pm, pY, bY⟩ := z
      exact ⟨_, rfl, q Lf ws Y hw pm pY nLfH bY⟩
    · obtain ⟨rfl, ls, ws, rfl, hl, hw, pm, pY, bY⟩ := z
      refine ⟨_, rfl, Nat.zero_le _, fun Le nLe => ?_⟩
      have s3 := same_upd (o := .lst []) nLe
      refine ⟨Ll, Le, ls, rfl, rfl, s3 _ _ hl, upd_same, _, rfl, ?_⟩
      have hl3 := s3 _ _ hl
      have hw3 := s3 _ _ hw
      have pY3 := pY.keep s3
      have bY3 := bY.trans (But.same s3)
      clear hl hw pY bY s3
      generalize upd Y Le (.lst []) = Y3 at hl3 hw3 pY3 bY3 ⊢
      clear nLe
      have lpm := pm.length_eq
      rw [List.length_append] at lpm
      cases ls with
      | nil =>
        rw [List.append_nil] at pm
        exact iteF (hN _ _ ⟨rfl, ws, hw3, pm, (pY3).le (by omega), bY3⟩)
      | cons l0 lr =>
        refine iteT ⟨_, fun σ' H' w => w, ?_⟩
        refine ⟨_, rfl, .inl ⟨rfl, _, SqL.of hw3⟩, _, rfl, .inl ⟨rfl, _, SqL.of hl3⟩, _, rfl, _, rfl, Ll, _, rfl, .inl (SqL.of hl3), d, c, _, ns, _, rfl, pY3, by omega, (by show (1 : Int) ≤ ((lr.length + 1 : Nat) : Int); omega), (by show ((lr.length + 1 : Nat) : Int) < 1000000; have h : ws.length + (lr.length + 1) = us.length := lpm; omega), fun r Y4 r0 r1 p4 b4 => ?_⟩
        obtain ⟨k, rfl⟩ := Int.eq_ofNat_of_zero_le r0
        have hk : k < (l0 :: lr).length := by omega
        have hl4 := b4 _ _ hl3 nLld
        have hw4 := b4 _ _ hw3 nLfd
        have sx : seqIndex? ((k : Nat) : Int) (l0 :: lr).length = some k := by
          have hn : ¬ (((k : Nat) : Int) < 0) := by omega
          unfold seqIndex?
          simp only [if_neg hn]
          rw [decide_eq_true r0, decide_eq_true r1]
          rfl
        refine ⟨Ll, l0 :: lr, _, k, (l0 :: lr)[k], rfl, rfl, hl4, by omega, by simp at hk lpm; omega, sx, List.getElem?_eq_getElem hk, ?_⟩
        have h1 : ws.length + (lr.length + 1) = us.length := lpm
        have hw5 : (upd Y4 Ll (.lst ((l0 :: lr).eraseIdx k))) Lf = some (.lst ws) := by rw [upd_ne nfl]; exact hw4
        refine ⟨Lf, ws, _, rfl, rfl, hw5, Nat.lt_of_lt_of_le (by omega : ws.length < 300) (by decide), ?_⟩
        have le : ((l0 :: lr).eraseIdx k).length = lr.length := by
          rw [List.length_eraseIdx_of_lt hk]
          rfl
        refine ⟨lr.length, Nat.lt_succ_self _, rfl, (l0 :: lr).eraseIdx k, ws ++ [(l0 :: lr)[k]], le.symm, by rw [upd_ne nfl.symm]; exact upd_same, upd_same, ?_, ?_, ?_⟩
        · rw [List.append_assoc]
          refine List.Perm.trans (List.Perm.append_left ws ?_) pm
          exact perm_erase _ k hk
        · rw [List.length_append]
          exact PenAt.le ((p4.put nLld nLlc).put nLfd nLfc) (by show _ ≤ n + ((ws.length + 1 : Nat) : Int); omega)
        · intro b o e n'
          rw [upd_ne (nH2 b o e), upd_ne (nH1 b o e)]
          exact b4 _ _ (bY3 b o e n') n'
end
end LA
end
section
set_option Elab.async false
set_option linter.all false
set_option maxRecDepth 100000
set_option maxHeartbeats 4100000
/-! f(), list(text), a list's slice, join, text[i] that keep the frame; not of a raw call -/
namespace XW
open PySem PySem.Spec PyProof.Rows L2 XD XK
section
variable {X : Cx} {a b c e o : Expr} {es : List Expr} {ta tb te to : TE} {tw : TEW} {pos p apos p2 : Pos} {x : Str}
theorem k_call0 {CX : CXT} {k : Nat} {f : Addr} {fd : FuncData} {ps : List Str} {sp : Sp} {E : XK} (F : FnOk X.prog X.w X.K X.mg X.base CX k f fd ps sp) (hr : Room k X.A) (hg : Gl X x) (hm : X.mg x = some (.ref f)) (hk : PySem.W.keepIn X.K (.ref f) = true) (hb : Binds X.K fd ps []) (hx : Passes CX X E)
    (hdb : (x == ("__debug__" : Str)) = false := by decide) : PEK X (.Call (.Name x p) [] [] pos) (tCall sp [] E tNil) :=
  ⟨fun pins s σ H Q I h => wpAny_Call_Name_kw (ld_glob I hg hm (PySem.W.callWith_K0 I.kIn hk (run_k F hr hb hx I .nil h)) hdb)⟩
theorem k_ixS (ha : PEK X a ta) (hb : PEK X b tb) (hs : PlainIx b) : PEK X (.Subscript a b pos) (tOp rIxS ta tb) := by
  refine ⟨fun pins s σ H Q I h => ?_⟩
  refine Subscript_ (thn (ha.run pins s σ H _ I h) fun v s1 ⟨x, H1, I1, rx, k1, q1⟩ => thn (hb.run pins s1 σ H1 _ I1 q1) fun u s2 ⟨y, H2, I2, ry, k2, z, i, c, ex, ey, hz, he, q⟩ => ?_)
  subst ex
  subst ey
  obtain ⟨t, rfl⟩ := rx
  obtain ⟨t', rfl⟩ := ry
  obtain ⟨j, h1, h2, h3, h4, h5⟩ := atI_get he
  have hl : z.cps.toList.length = z.length := by simp [Str.length]
  rw [hl] at h1 h4 h5
  have hn := line63
  exact tail_any (typeIs_str s2 z t) slot_str_getitem.lookup (getItem_str (c := c) (by
    have e1 : decide (i < -(2 ^ 63 : Int)) = false := decide_eq_false (by omega)
    have e2 : decide (i ≥ 2 ^ 63) = false := decide_eq_false (by omega)
    rw [e1, e2, Bool.or_false]) (by rw [h1]; simpa using h2) ⟨.str ⟨#[c]⟩, H2, I2.tok _, ⟨_, rfl⟩, (k1.trans k2).trans ⟨Nat.le_succ _, fun _ h => h⟩, q⟩) (hs _ _)
/-- not f(..) of a raw call -/
def tNotW (tw : TEW) : Shared → L2.St → Hp → (Bool → Shared → Hp → Prop) → Prop := fun s σ H Q => tw s σ H fun x _ s1 H1 => ∃ c, x = .bl c ∧ Q (!c) s1 H1
theorem ptw_not (h : PEW X e tw) (he : ∀ whole : Sem Value, PySem.isTrue e X.env whole = (do
      let v ← whole
      standAt e.pos
      holding [v] (truthy v)) := by intro _; rfl) : PTW X (.UnaryOp .Not e pos) (tNotW tw) := ⟨fun pins s σ H Q I hw => by
  refine isTrue_not (isTrue_plain (thn (h.run pins s σ H _ I hw) fun v s1 ⟨x, H1, I1, r1, d, ex, q⟩ => ?_) (he (eval e X.env)))
  subst ex
  obtain rfl : v = Value.bool d := r1
  exact wpAny_truthy_bool ⟨H1, I1, q⟩⟩
theorem k_sliceL {lo hi : Option Expr} {tl th : TO} (he : PEK X e te) (hl : POK X lo tl) (hu : POK X hi th) : PEK X (.Subscript e (.Slice lo hi none p2) pos) (tSl (rSlL X.K) te tl th) := by
  refine ⟨fun pins s σ H Q I h => ?_⟩
  refine Subscript_ (thn (he.run pins s σ H _ I h) fun v s1 ⟨x, H1, I1, r1, k1, q1⟩ => wpAny_Slice (thn (hl.run pins s1 σ H1 _ I1 q1) fun vl s2 ⟨l, H2, I2, pl, k2, q2⟩ => thn (hu.run pins s2 σ H2 _ I2 q2) fun vu s3 ⟨u, H3, I3, pu, k3, q3⟩ => ?_))
  rw [evalPart_none]
  refine wpAny_pure ?_
  have kk : ∀ b ob, s3.heap.get? b = some ob → (s3.heap.push { cls := .type "slice", data := .fields #[vl, vu, .none] }).get? b = some ob := fun b ob q => Heap.get?_push_of_some _ q
  have I4 := I3.kept (t' := s3.toks) kk
  obtain ⟨T, id, hT, ht, hg⟩ := sl_list pins _ σ H3 x v vl vu l u s3.heap.objs.size Q I4 r1 (Heap.IsSliceOf.new s3.1 vl vu Value.none) pl pu q3
  obtain ⟨a, xs, rfl, hq, q4⟩ := q3
  obtain rfl : v = Value.ref a := r1
  obtain ⟨its, r, pl', hz⟩ := I4.list hq
  have hlen := r.length
  have fr : wpAny (model X.prog X.w) X.A (getItem (.ref a) (.ref s3.heap.objs.size)) (fun _ s' => ∀ m, s3.heap.Ns X.env.locals m → s'.heap.Ns X.env.locals m) X.xe { s3 with heap := s3.heap.push { cls := .type "slice", data := .fields #[vl, vu, .none] } } := by
    refine wpAny_getItem_list_slice pl'.isList (Heap.IsSliceOf.new s3.1 _ _ Value.none) pl pu IsPart.none (by simp) ?_ (by rw [List.size_toArray]; omega)
    exact fun m h => ns_kept (fun b u e => Heap.get?_push_of_some _ (kk b u e)) m h
  have hg2 := wpAny_and hg fr
  refine tail_any ht hT (wpAny_mono (PySem.wpAny_toks hg2) (fun w s' ⟨hk, ⟨v', H', I', r', q'⟩, f'⟩ => ⟨v', H', I', r', (k1.trans k2).trans (k3.trans ⟨hk, f'⟩), q'⟩) fun _ _ z => z.2.1) rfl
/-- sep.join(list) -/
def tJoinK (X : Cx) (to te : TE) : TE := fun σ H Q => to σ H fun x H1 => ∃ c : Str, x = .str c ∧ te σ H1 fun y H2 => ∃ (D : Addr) (ys : List Str), y = .ref D ∧ SqL X.K H2 D (ys.map V.str) ∧ (ys.map (·.length)).sum + ys.length * c.length ≤ 16777216 ∧ Q (.str (Txt.join c ys)) H2
theorem k_join (ho : PEK X o to) (he : PEK X e te) (hst : starEach [e] X.env = [(false, eval e X.env)] := by rfl) (hbase : attributeBase o "join" X.env (eval o X.env) = eval o X.env := by rfl) (hline : (apos.endLine == pos.line) = true := by rfl) :
    PEK X (.Call (.Attribute o "join" apos) [e] [] pos) (tJoinK X to te) := by
  refine ⟨fun pins s σ H Q I h => ?_⟩
  refine PySem.Call_method1 hbase hst hline (thn (ho.run pins s σ H _ I h) fun ov s1 ⟨x, H1, I1, r1, k1, c, ex, q1⟩ => ?_)
  subst ex
  obtain ⟨ta, rfl⟩ := r1
  refine ⟨"str", _, PySem.F.plainAttrs_str, PySem.F.slot_str_join, PySem.F.type_str_join, typeIs_str _ _ _, (fun _ e => nomatch e), Calls.callWith_builtin rfl (Calls.evalArgs_plain (Calls.spliced_cons ?_))⟩
  refine thn (he.run pins s1 σ H1 _ I1 q1) fun u s2 ⟨y, H2, I2, r2, k2, D, ys, ey, hD, hz, q2⟩ => Calls.spliced_nil ?_
  subst ey
  cases r2
  obtain ⟨its, rv, hs, hlen⟩ := I2.list hD
  obtain ⟨l, rfl, rfl⟩ := vals_strs rv
  have ok := joinOk_of hz
  have fit := joinFit_length (sep := c) (texts := l.map (·.1))
  unfold JoinOk at ok
  rw [Bool.not_eq_true'] at ok
  refine call_meets F.slot_str_join (typeIs_str _ _ _) F.entry_str_join (F.args_str_join_2 _ _) (meets_str_join_list c ta D l ok) ⟨hs.isList, ?_⟩
  have kp := k1.trans k2
  match l, fit, ok, q2 with
  | [], fit, ok, q2 => exact ⟨fit ok, .str _, H2, I2.tok _, ⟨_, rfl⟩, kp.trans ⟨Nat.le_succ _, fun _ h => h⟩, q2⟩
  | [p], fit, ok, q2 => exact ⟨.str p.1, H2, I2, ⟨_, rfl⟩, kp, (by
      have e : Txt.join c ([p].map (·.1)) = p.1 := rfl
      rw [← e]
      exact q2)⟩
  | p :: q :: r, fit, ok, q2 => exact ⟨fit ok, .str _, H2, I2.tok _, ⟨_, rfl⟩, kp.trans ⟨Nat.le_succ _, fun _ h => h⟩, q2⟩
theorem items_vals : ∀ (cs : List Nat) (us : List Value), us.length = cs.length → (∀ (j : Nat) (v : Value), us[j]? = some v → ∃ c u, cs[j]? = some c ∧ v = Value.str ⟨#[c]⟩ u) → Vals (cs.map fun c => V.str ⟨#[c]⟩) us
  | [], [], _, _ => .nil
  | [], _ :: _, h, _ => by simp at h
  | _ :: _, [], h, _ => by simp at h
  | c :: cs, u :: us, h, g => by
    refine .cons ?_ (items_vals cs us (by simpa using h) fun j v hv => g (j + 1) v (by simpa using hv))
    obtain ⟨c', t, e1, e2⟩ := g 0 u rfl
    have e1 : c = c' := by simpa using e1
    subst e1
    exact ⟨t, e2⟩
/-- list(text) -/
theorem ck_list_str (hc : X.calm = true) : CallK X (.type "list") fun xs H Q => ∃ z : Str, xs = [V.str z] ∧ z.length ≤ 10000 ∧ ∀ (l : Addr), H l = none → Q (V.ref l) (upd H l (.lst (z.cps.toList.map fun c => V.str ⟨#[c]⟩))) := by
  intro pins s σ H vs us Q I r h
  obtain ⟨z, rfl, hz, q⟩ := h
  obtain ⟨u, rfl, ru⟩ := r.one
  obtain ⟨t, rfl⟩ := ru
  have hf : H s.heap.objs.size = none := I.hok.fresh (Nat.le_refl _)
  refine call_list_str (I.ok.hd hc) z t (fun h' tk acc c' kp hl it => ?_) (hn := Nat.le_trans (show z.cps.size ≤ 10000 from hz) (by decide))
  have hv : Vals (z.cps.toList.map fun c => V.str ⟨#[c]⟩) acc.toList := items_vals _ _ (by rw [Array.length_toList, it.1]; rfl) fun j v hj => by
    obtain ⟨c, u, e1, e2⟩ := it.2 j v (by simpa using hj)
    exact ⟨c, u, by simpa using e1, e2⟩
  have hlen : (z.cps.toList.map fun c => V.str ⟨#[c]⟩).length ≤ sizeLine := by
    rw [List.length_map]
    exact Nat.le_trans (show z.cps.toList.length ≤ 10000 from hz) (by decide)
  exact ⟨.ref s.heap.objs.size, upd H s.heap.objs.size (.lst (z.cps.toList.map fun c => V.str ⟨#[c]⟩)), I.laid (t' := tk) kp (Nat.le_refl _) ⟨hlen, acc.toList, c', hv, by rw [hl]⟩, rfl, ns_kept kp, q _ hf⟩
end
end XW
end
section
set_option Elab.async false
set_option linter.all false
set_option maxRecDepth 100000
set_option maxHeartbeats 8000000
namespace LA
open PySem PySem.Spec PyProof.Rows L2 XS XT XK XW XZt
abbrev sLaw : Stmt := top 37
abbrev lawN : List Str := ["_law_script", "_law_pen_here", "_law_turn", "_law_signs_here", "_law_was", "_law_fresh", "_law_letters", "_law_swap", "_law_home", "_law_one", "_law_other", "_law_again", "_law_row_here", "_law_cut", "_law_told"]
/-! ### letters exchanged to and fro -/
theorem swc_in {L T : List Nat} {c : Nat} (e : T.length = L.length) (m : c ∈ L) : ∃ h : L.idxOf c < T.length, swc L T c = T[L.idxOf c]'h := by
  have h : L.idxOf c < T.length := by rw [e]; exact List.idxOf_lt_length_of_mem m
  refine ⟨h, ?_⟩
  unfold swc
  rw [if_pos m, List.getD_eq_getElem?_getD, List.getElem?_eq_getElem h]
  rfl
theorem swc_out {L T : List Nat} {c : Nat} (m : c ∉ L) : swc L T c = c := by
  unfold swc
  rw [if_neg m]
theorem idx_at : ∀ {T : List Nat} (nd : T.Nodup) (i : Nat) (h : i < T.length), T.idxOf (T[i]'h) = i
  | [], _, i, h => absurd h (Nat.not_lt_zero i)
  | a :: T, nd, 0, h => by
    show (a :: T).idxOf a = 0
    exact List.idxOf_cons_self
  | a :: T, nd, i + 1, h => by
    obtain ⟨na, nd'⟩ := List.nodup_cons.mp nd
    have h' : i < T.length := by simpa using h
    show (a :: T).idxOf (T[i]'h') = i + 1
    have ne : a ≠ T[i]'h' := fun z => na (z ▸ List.getElem_mem h')
    rw [List.idxOf_cons, beq_eq_false_iff_ne.mpr ne]
    show T.idxOf (T[i]'h') + 1 = i + 1
    rw [idx_at nd' i h']
theorem swc_home {L T : List Nat} (ndT : T.Nodup) (e : T.length = L.length) (same : ∀ x, x ∈ T ↔ x ∈ L) (c : Nat) : swc T L (swc L T c) = c := by
  by_cases m : c ∈ L
  · obtain ⟨h, es⟩ := swc_in e m
    have mT : T[L.idxOf c]'h ∈ T := List.getElem_mem h
    rw [es]
    obtain ⟨h2, es2⟩ := swc_in e.symm mT
    rw [es2]
    have ei := idx_at ndT (L.idxOf c) h
    have hl := List.idxOf_lt_length_of_mem m
    have : L[T.idxOf (T[L.idxOf c]'h)]'h2 = L[L.idxOf c]'hl := by
      congr 1
    rw [this]
    exact List.getElem_idxOf hl
  · rw [swc_out m, swc_out fun z => m ((same c).mp z)]
theorem cod_swap {l o z : Str} : cod (Ch.done ⟨2, l, o⟩ z) = (cod z).map (swc (cod l) (cod o)) := by
  show cod (Txt.join "" (((cod z).map (swc (cod l) (cod o))).map sg)) = _
  exact join_sg _
theorem perm_codes {ws : List V} {l : List Nat} (h : ws.Perm (cs l)) : ∃ l' : List Nat, l'.Perm l ∧ ws = cs l' := by
  let g : V → Nat := fun v => match v with
    | .str z => z.cps.toList.headD 0
    | _ => 0
  have gf : ∀ c, g (V.str (sg c)) = c := fun c => rfl
  refine ⟨ws.map g, ?_, ?_⟩
  · have e : (cs l).map g = l := by
      unfold cs
      rw [List.map_map]
      exact (List.map_congr_left fun c _ => gf c).trans (List.map_id l)
    have p := h.map g
    rw [e] at p
    exact p
  · unfold cs
    rw [List.map_map]
    refine ((List.map_congr_left fun v hv => ?_).trans (List.map_id ws)).symm
    have m := h.mem_iff.mp hv
    unfold cs at m
    obtain ⟨c, _, rfl⟩ := List.mem_map.mp m
    show V.str (sg (g (V.str (sg c)))) = _
    rw [gf]
    rfl
theorem sgs_nd : (cod sgsZ).Nodup := by decide +kernel
theorem sgs_lt : ∀ c ∈ cod sgsZ, Lt c := by decide +kernel
/-- letters, and turned by one -/
structure Turn2 (l o : Str) : Prop where
  nd : (cod l).Nodup
  ndo : (cod o).Nodup
  len : o.length = l.length
  same : ∀ x, x ∈ cod o ↔ x ∈ cod l
  lt : ∀ c ∈ cod l, Lt c
  two : 2 ≤ l.length
  few : l.length ≤ 6
theorem Turn2.ok1 {l o : Str} (h : Turn2 l o) : ChOk ⟨2, l, o⟩ := by
  have ll : lineB l = true := lineB_of.mpr h.lt
  have lo : lineB o = true := lineB_of.mpr fun c hc => h.lt c ((h.same c).mp hc)
  refine ⟨by show l.length < 100; have := h.few; omega, by show o.length < 100; have := h.few; have := h.len; omega, fun e => absurd rfl e, fun e => absurd (show (2 : Nat) < 2 from e) (by decide), fun _ => ⟨?_, lo, h.len⟩⟩
  show (wordB l && decide (cod l).Nodup) = true
  unfold wordB
  rw [ll, decide_eq_true (by have := h.two; omega : 0 < l.length), decide_eq_true h.nd]
  rfl
theorem Turn2.ok2 {l o : Str} (h : Turn2 l o) : ChOk ⟨2, o, l⟩ :=
  Turn2.ok1 (l := o) (o := l) ⟨h.ndo, h.nd, h.len.symm, fun x => (h.same x).symm, fun c hc => h.lt c ((h.same c).mp hc), by rw [h.len]; exact h.two, by rw [h.len]; exact h.few⟩
theorem Turn2.back {l o : Str} (h : Turn2 l o) (z : Str) : Ch.done ⟨2, o, l⟩ (Ch.done ⟨2, l, o⟩ z) = z := by
  refine cod_inj ?_
  rw [cod_swap, cod_swap, List.map_map]
  exact (List.map_congr_left fun c _ => swc_home h.ndo (by rw [len_cod, len_cod]; exact h.len) h.same c).trans (List.map_id _)
theorem swap_len {l o z : Str} : (Ch.done ⟨2, l, o⟩ z).length = z.length := by rw [← len_cod, cod_swap, List.length_map, len_cod]
theorem swap_cut {l o z : Str} {k : Nat} (h : k ≤ z.length) : Ch.done ⟨2, l, o⟩ z = Ch.done ⟨2, l, o⟩ (cutS z none (some (k : Int))) ++ Ch.done ⟨2, l, o⟩ (cutS z (some (k : Int)) none) := by
  refine cod_inj ?_
  rw [cod_add, cod_swap, cod_swap, cod_swap, cod_pre, cod_from z k h, ← List.map_append, List.take_append_drop]
theorem turn_of {l : Str} {c0 : Nat} (nd : (cod l).Nodup) (lt : ∀ c ∈ cod l, Lt c) (two : 2 ≤ l.length) (few : l.length ≤ 6) (h0 : (cod l)[0]? = some c0) : Turn2 l (cutS l (some ((1 : Nat) : Int)) none ++ ⟨#[c0]⟩) := by
  have e : cod (cutS l (some ((1 : Nat) : Int)) none ++ ⟨#[c0]⟩) = (cod l).drop 1 ++ [c0] := by rw [cod_add, cod_from l 1 (by omega)]
  have el : cod l = c0 :: (cod l).drop 1 := by
    cases hl : cod l with
    | nil => rw [hl] at h0; cases h0
    | cons a r =>
      rw [hl] at h0
      cases h0
      rfl
  have nd2 := nd
  rw [el] at nd2
  obtain ⟨n0, n1⟩ := List.nodup_cons.mp nd2
  refine ⟨nd, ?_, ?_, fun x => ?_, lt, two, few⟩
  · rw [e, List.nodup_append]
    refine ⟨n1, List.nodup_cons.mpr ⟨by simp, List.nodup_nil⟩, fun a ha b hb => ?_⟩
    rw [List.mem_singleton] at hb
    subst hb
    exact fun z => n0 (z ▸ ha)
  · rw [← len_cod, e, List.length_append, List.length_drop, len_cod]
    show l.length - 1 + 1 = l.length
    omega
  · rw [e, List.mem_append, List.mem_singleton]
    constructor
    · rintro (h | h)
      · exact List.mem_of_mem_drop h
      · rw [h, el]
        exact List.mem_cons_self
    · intro h
      rw [el] at h
      rcases List.mem_cons.mp h with h | h
      · exact .inr h
      · exact .inl h
theorem prs_app {R : Ch → V → Prop} {chs ch2 : List Ch} {us u2 : List V} (p : Prs R chs us) (q : Prs R ch2 u2) : Prs R (chs ++ ch2) (us ++ u2) := by
  refine ⟨by rw [List.length_append, List.length_append, p.1, q.1], fun i c' u' hc hu => ?_⟩
  by_cases l : i < chs.length
  · rw [List.getElem?_append_left l] at hc
    rw [List.getElem?_append_left (by rw [p.1]; exact l)] at hu
    exact p.2 i c' u' hc hu
  · rw [List.getElem?_append_right (by omega)] at hc
    rw [List.getElem?_append_right (by rw [p.1]; omega), p.1] at hu
    exact q.2 _ c' u' hc hu
theorem prs_few {C : Nat → Addr} {H : Hp} {chs : List Ch} {us : List V} (p : Prs (CA C H) chs us) : ∀ c ∈ chs, c.i < 5 := fun c hc => by
  obtain ⟨i, hi, e⟩ := List.mem_iff_getElem.mp hc
  have hu : i < us.length := by rw [p.1]; exact hi
  exact (p.2 i c _ (List.getElem?_eq_some_iff.mpr ⟨hi, e⟩) (List.getElem?_eq_getElem hu)).1
theorem doneL_app {a b : List Ch} {z : Str} : doneL (a ++ b) z = doneL b (doneL a z) := List.foldl_append
theorem doneL_fits {z : Str} (hz : z.length ≤ 14) : ∀ (n : Nat) (chs : List Ch), chs.length = n → (∀ c ∈ chs, GoodCh c) → (∀ c ∈ chs, c.i < 5) → (doneL chs z).length + 2 ≤ 16 * 2 ^ n
  | 0, chs, e, _, _ => by
    have e : chs = [] := List.length_eq_zero_iff.mp e
    subst e
    exact (by show z.length + 2 ≤ 16; omega)
  | n + 1, chs, e, h, h5 => by
    obtain ⟨cs, c, rfl⟩ : ∃ cs c, chs = cs ++ [c] := ⟨chs.dropLast, chs.getLast (by intro q; rw [q] at e; cases e), (List.dropLast_concat_getLast _).symm⟩
    rw [List.length_append, List.length_singleton] at e
    have l := doneL_fits hz n cs (by omega) (fun x hx => h x (List.mem_append_left _ hx)) fun x hx => h5 x (List.mem_append_left _ hx)
    obtain ⟨ok, wd⟩ := h c (List.mem_append_right _ List.mem_cons_self)
    have dl := done_len (z := doneL cs z) ok wd (h5 c (List.mem_append_right _ List.mem_cons_self))
    have ps := pow_step l
    rw [doneL_app]
    show (c.done (doneL cs z)).length + 2 ≤ _
    omega
section
variable {P : Program} {w : World} {K : PySem.W.Frag} {mg : Str → Option Value} {base : Heap} {C : Nat → Addr}
theorem ne_sameS (a : Str) : (!decide (a = a)) = false := by simp
theorem CA.insR {G : Hp} {c : Ch} {p : Addr} (h : CA C G c (.ref p)) : ∃ dx, InsA G p (C c.i) dx (flds c) := by
  obtain ⟨a, dx, e, i⟩ := h.ins
  cases e
  exact ⟨dx, i⟩
def spLit : Sp := fun vs H Q _ => vs = [] ∧ Q (.str sgsZ) H
theorem ok_signs {f : Addr} {fd : FuncData} (F : Fun K "_law_signs" "_law_signs" sSigns f fd) : FnOk P w K mg base CX0 1 f fd [] spLit := by
  refine F.ok scG (fun vs H Q E h => ?_) (fun cdv A outer s H vs Q E hr h => ?_)
  · obtain ⟨rfl, _⟩ := h
    rfl
  · obtain ⟨rfl, q⟩ := h
    exact ⟨_, pss_one (by exact (ps_ret pe_str)), q⟩
theorem scLaw : FnScope lawN ["_law_script"] (defScope sLaw) := ⟨rfl, rfl, rfl, by decide +kernel, rfl, by decide +kernel, by decide +kernel⟩
structure LawT (mg : Str → Option Value) : Prop where
  ran : mg "range" = none
  lst : mg "list" = none
  len : mg "len" = none
  tup : mg "tuple" = none
/-- the defs that the law calls -/
structure LawC (P : Program) (w : World) (K : PySem.W.Frag) (mg : Str → Option Value) (base : Heap) (C : Nat → Addr) (a : Nat → Addr) (fd : Nat → FuncData) : Prop where
  pen : CallOf P w K mg base 1 "_law_pen" ["_law_script"] (spPen K) (a 0) (fd 0)
  few : CallOf P w K mg base 3 "_law_few" ["_law_pen_here"] spFew (a 1) (fd 1)
  row : CallW P w K mg base 3 "_law_row" ["_law_pen_here", "_law_signs_here", "_law_least", "_law_most_letters"] spRowW (a 2) (fd 2)
  sh : CallOf P w K mg base 2 "_law_shuffled" ["_law_pen_here", "_law_items"] spShf (a 3) (fd 3)
  sg : CallOf P w K mg base 1 "_law_signs" [] spLit (a 4) (fd 4)
  draw : CallOf P w K mg base 1 "_law_draw" ["_law_pen_here", "_law_span"] spDraw (a 5) (fd 5)
  jds : CallOf P w K mg base 5 "_law_jdeeds" ["_law_pen_here", "_law_signs_here", "_law_most_deeds", "_law_wide"] spJds (a 6) (fd 6)
  jm : CallOf P w K mg base 9 "_law_jmade_deeds" ["_law_deeds"] (spJm C) (a 7) (fd 7)
  jn : CallOf P w K mg base 4 "_law_jline" ["_law_pen_here", "_law_words", "_law_signs_here", "_law_most_letters"] spJline (a 8) (fd 8)
  old : CallW P w K mg base 8 "_law_olds_right" ["_law_was", "_law_fresh", "_law_row_here"] spOr (a 9) (fd 9)
  dl : CallOf P w K mg base 2 "done_all" ["changes", "line"] (spDAll K C true) (a 10) (fd 10)
  dt : CallOf P w K mg base 2 "done_all" ["changes", "line"] (spDAll K C false) (a 10) (fd 10)
def spLaw (K : PySem.W.Frag) : Sp := fun vs H Q _ => ∃ (a : Addr) (ns : List Int), vs = [.ref a] ∧ SqL K H a (ns.map V.int) ∧ ns.length ≤ 63 ∧ ∀ H', Q (.bl true) H'
theorem ok_law {f D : Addr} {fd : FuncData} {a I h p : Nat → Addr} {fa dI dh dp : Nat → FuncData} (F : Fun K "law" "law" sLaw f fd) (Q0 : LawT mg) (M : LawC P w K mg base C a fa) (O : OldT P w K mg base C D I h p dI dh dp) : AtCaller P w K mg base CX0 20 f fd ["_law_script"] (spLaw K) := by
  refine atCaller F scLaw (fun vs H Q E h => ?_) (fun cdv outer s H vs Q E hr h => ?_)
  · obtain ⟨a, ns, rfl, _⟩ := h
    rfl
  · obtain ⟨a, ns, rfl, hS, hl, k⟩ := h
    have hr9 : Room 9 _ := hr.mono (by decide)
    have hr8 : Room 8 _ := hr.mono (by decide)
    have hr7 : Room 7 _ := hr.mono (by decide)
    have hr5 : Room 5 _ := hr.mono (by decide)
    have hr4 : Room 4 _ := hr.mono (by decide)
    have hr3 : Room 3 _ := hr.mono (by decide)
    have hr2 : Room 2 _ := hr.mono (by decide)
    have hr1 : Room 1 _ := hr.mono (by decide)
    refine ⟨_, (pss_cons (by exact (ps_set (i := 1) scLaw.nd rfl (.inl rfl) (pe_call M.pen.ok hr1 rfl M.pen.m M.pen.k M.pen.b .nil pass0 (pa_cons (pv 0) pa_nil))))
        (pss_cons (by exact (ps_for PassesOwn.never rfl (pi_range1 rfl Q0.ran (pa_cons pe_int pa_nil)) (pg_name (i := 2) scLaw.nd rfl (Or.inl rfl)) (pss_raw
          (pssw_cons (by exact (PSW.of (ps_set (i := 3) scLaw.nd rfl (.inl rfl) (pe_call M.few.ok hr3 rfl M.few.m M.few.k M.few.b .nil pass0 (pa_cons (pv 1) pa_nil)))))
          (pssw_frame
          (pssw_cons (by exact (psw_par (i := 4) (j := 5) (by rfl) scLaw.nd rfl rfl (by decide) rfl rfl rfl (paw_cons (pew_call M.row.ok hr3 rfl M.row.m M.row.k M.row.b pass0 (paw_cons (pew_loc (i := 1) rfl rfl) (paw_cons (pew_loc (i := 3) rfl rfl) (paw_cons pew_int (paw_cons pew_int paw_nil))))) (paw_cons (pew_call M.row.ok hr3 rfl M.row.m M.row.k M.row.b pass0 (paw_cons (pew_loc (i := 1) rfl rfl) (paw_cons (pew_loc (i := 3) rfl rfl) (paw_cons pew_int (paw_cons pew_int paw_nil))))) paw_nil)) (by rfl)))
          (pssw_cons (by exact (psw_set (i := 6) scLaw.nd rfl rfl rfl (PEK.pew (k_join k_str (k_sliceL (k_call M.sh.ok hr2 rfl M.sh.m M.sh.k M.sh.b pass0 (ka_cons (k_loc (i := 1) rfl rfl) (ka_cons (k_callTy (ck_list_str (by rfl)) (by rfl) Q0.lst (by decide +kernel) (ka_cons (k_call0 M.sg.ok hr1 rfl M.sg.m M.sg.k M.sg.b pass0) ka_nil)) ka_nil))) ko_none (ko_some (k_op ok_add_int k_int (k_call M.draw.ok hr1 rfl M.draw.m M.draw.k M.draw.b pass0 (ka_cons (k_loc (i := 1) rfl rfl) (ka_cons k_int ka_nil))))))))))
          (pssw_cons (by exact (psw_par (i := 7) (j := 8) (by rfl) scLaw.nd rfl rfl (by decide) rfl rfl rfl (paw_cons (PEK.pew (k_make O.m.m2.made O.m.m2.ok hr7 rfl O.n.n2 O.m.m2.b passN (ka_cons (k_loc (i := 6) rfl rfl) (ka_cons (k_op ok_add_str (k_slice (k_loc (i := 6) rfl rfl) (ko_some k_int) ko_none) (k_ixS (k_loc (i := 6) rfl rfl) k_int (fun _ _ => rfl))) ka_nil)))) (paw_cons (PEK.pew (k_make O.m.m2.made O.m.m2.ok hr7 rfl O.n.n2 O.m.m2.b passN (ka_cons (k_op ok_add_str (k_slice (k_loc (i := 6) rfl rfl) (ko_some k_int) ko_none) (k_ixS (k_loc (i := 6) rfl rfl) k_int (fun _ _ => rfl))) (ka_cons (k_loc (i := 6) rfl rfl) ka_nil)))) paw_nil)) (by rfl)))
          (pssw_cons (by exact (psw_par (i := 9) (j := 10) (by rfl) scLaw.nd rfl rfl (by decide) rfl rfl rfl (paw_cons (PEK.pew (k_call M.jm.ok hr9 rfl M.jm.m M.jm.k M.jm.b pass0 (ka_cons (k_call M.jds.ok hr5 rfl M.jds.m M.jds.k M.jds.b pass0 (ka_cons (k_loc (i := 1) rfl rfl) (ka_cons (k_loc (i := 3) rfl rfl) (ka_cons k_int (ka_cons k_int ka_nil))))) ka_nil))) (paw_cons (PEK.pew (k_call M.jm.ok hr9 rfl M.jm.m M.jm.k M.jm.b pass0 (ka_cons (k_call M.jds.ok hr5 rfl M.jds.m M.jds.k M.jds.b pass0 (ka_cons (k_loc (i := 1) rfl rfl) (ka_cons (k_loc (i := 3) rfl rfl) (ka_cons k_int (ka_cons k_int ka_nil))))) ka_nil))) paw_nil)) (by rfl)))
          (pssw_one (by exact (psw_forR (i := 11) (n := 8) (by rfl) (fun _ _ h => h) (by rfl) Q0.ran scLaw.nd rfl rfl rfl rfl (by decide)
            (pssw_cons (by exact (psw_set (i := 12) scLaw.nd rfl rfl rfl (PEK.pew (k_call M.jn.ok hr4 rfl M.jn.m M.jn.k M.jn.b pass0 (ka_cons (k_loc (i := 1) rfl rfl) (ka_cons (k_lst (ka_cons (k_loc (i := 4) rfl rfl) (ka_cons (k_loc (i := 5) rfl rfl) ka_nil))) (ka_cons (k_op ok_add_str (k_loc (i := 3) rfl rfl) (k_slice (k_loc (i := 6) rfl rfl) ko_none (ko_some k_int))) (ka_cons k_int ka_nil))))))))
            (pssw_cons (by exact (psw_if (ptw_not (pew_call M.old.ok hr8 rfl M.old.m M.old.k M.old.b pass0 (paw_cons (pew_name (i := 4) rfl rfl) (paw_cons (pew_name (i := 5) rfl rfl) (paw_cons (pew_loc (i := 12) rfl rfl) paw_nil))))) (pssw_one (by exact (PSW.of (ps_ret pe_bl)))) pssw_nil))
            (pssw_cons (by exact (psw_set (i := 13) scLaw.nd rfl rfl rfl (PEK.pew (k_call M.draw.ok hr1 rfl M.draw.m M.draw.k M.draw.b pass0 (ka_cons (k_loc (i := 1) rfl rfl) (ka_cons (k_op ok_add_int (k_callB ck_len_str (by rfl) Q0.len PySem.boot_len (ka_cons (k_loc (i := 12) rfl rfl) ka_nil)) k_int) ka_nil))))))
            (pssw_cons (by exact (psw_set (i := 14) scLaw.nd rfl rfl rfl (PEK.pew (k_meth (k_loc (i := 7) rfl rfl) (O.c.cls 2 (by decide)) (O.c.d 2).m (O.c.d 2).ok hr1 (O.c.d 2).b pass0 (ka_cons (k_loc (i := 12) rfl rfl) ka_nil)))))
            (pssw_cons (by exact (psw_if (PTK.ptw (PWK.pt (kw_or (kt_cmp ok_ne_str (k_meth (k_loc (i := 8) rfl rfl) (O.c.cls 2 (by decide)) (O.c.d 2).m (O.c.d 2).ok hr1 (O.c.d 2).b pass0 (ka_cons (k_loc (i := 14) rfl rfl) ka_nil)) (k_loc (i := 12) rfl rfl) (nomark _)) (kw_or1 (kt_cmp ok_ne_int (k_callB ck_len_str (by rfl) Q0.len PySem.boot_len (ka_cons (k_loc (i := 14) rfl rfl) ka_nil)) (k_callB ck_len_str (by rfl) Q0.len PySem.boot_len (ka_cons (k_loc (i := 12) rfl rfl) ka_nil)) (nomark _)))))) (pssw_one (by exact (PSW.of (ps_ret pe_bl)))) pssw_nil))
            (pssw_cons (by exact (psw_if (PTK.ptw (kt_cmp ok_ne_str (k_loc (i := 14) rfl rfl) (k_op ok_add_str (k_meth (k_loc (i := 7) rfl rfl) (O.c.cls 2 (by decide)) (O.c.d 2).m (O.c.d 2).ok hr1 (O.c.d 2).b pass0 (ka_cons (k_slice (k_loc (i := 12) rfl rfl) ko_none (ko_some (k_loc (i := 13) rfl rfl))) ka_nil)) (k_meth (k_loc (i := 7) rfl rfl) (O.c.cls 2 (by decide)) (O.c.d 2).m (O.c.d 2).ok hr1 (O.c.d 2).b pass0 (ka_cons (k_slice (k_loc (i := 12) rfl rfl) (ko_some (k_loc (i := 13) rfl rfl)) ko_none) ka_nil))) (nomark _))) (pssw_one (by exact (PSW.of (ps_ret pe_bl)))) pssw_nil))
            (pssw_cons (by exact (psw_if (PTK.ptw (PWK.pt (kw_or (kt_cmp ok_ne_str (k_meth (k_make O.m.m3.made O.m.m3.ok hr7 rfl O.n.n3 O.m.m3.b passN (ka_cons (k_loc (i := 4) rfl rfl) ka_nil)) (O.c.cls 3 (by decide)) (O.c.d 3).m (O.c.d 3).ok hr1 (O.c.d 3).b pass0 (ka_cons (k_meth (k_make O.m.m4.made O.m.m4.ok hr7 rfl O.n.n4 O.m.m4.b passN (ka_cons (k_loc (i := 4) rfl rfl) ka_nil)) (O.c.cls 4 (by decide)) (O.c.d 4).m (O.c.d 4).ok hr1 (O.c.d 4).b pass0 (ka_cons (k_loc (i := 12) rfl rfl) ka_nil)) ka_nil)) (k_op ok_add_str (k_op ok_add_str (k_loc (i := 4) rfl rfl) (k_loc (i := 12) rfl rfl)) (k_loc (i := 4) rfl rfl)) (nomark _))
                (kw_or1 (kt_cmp ok_ne_str (k_call M.dl.ok hr2 rfl M.dl.m M.dl.k M.dl.b pass0 (ka_cons (k_lst ka_nil) (ka_cons (k_loc (i := 12) rfl rfl) ka_nil))) (k_loc (i := 12) rfl rfl) (nomark _)))))) (pssw_one (by exact (PSW.of (ps_ret pe_bl)))) pssw_nil))
            (pssw_one (by exact (psw_if (PTK.ptw (kt_cmp ok_ne_str (k_call M.dl.ok hr2 rfl M.dl.m M.dl.k M.dl.b pass0 (ka_cons (k_op ok_cat (k_loc (i := 9) rfl rfl) (k_loc (i := 10) rfl rfl)) (ka_cons (k_loc (i := 12) rfl rfl) ka_nil))) (k_call M.dl.ok hr2 rfl M.dl.m M.dl.k M.dl.b pass0 (ka_cons (k_loc (i := 10) rfl rfl) (ka_cons (k_call M.dt.ok hr2 rfl M.dt.m M.dt.k M.dt.b pass0 (ka_cons (k_callTy ck_tuple (by rfl) Q0.tup (by decide +kernel) (ka_cons (k_loc (i := 9) rfl rfl) ka_nil)) (ka_cons (k_loc (i := 12) rfl rfl) ka_nil))) ka_nil))) (nomark _))) (pssw_one (by exact (PSW.of (ps_ret pe_bl)))) pssw_nil))))))))))))))))))))))
        (pss_one (by exact (ps_ret pe_bl))))), ?_⟩
    refine ⟨_, rfl, a, ns, rfl, hS, hl, fun d c ms H1 pen1 sm1 nd nc => ?_⟩
    refine ⟨10, rfl, by decide, by decide, for_range (lo := 0) (n := 10) (fun i σ X => ∃ x2 x3 x4 x5 x6 x7 x8 x9 x10 x11 x12 x13 x14 : Option V, σ = [some (.ref a), some (.ref d), x2, x3, x4, x5, x6, x7, x8, x9, x10, x11, x12, x13, x14] ∧ PenAt X d c (700 * i) ms) ⟨_, _, _, _, _, _, _, _, _, _, _, _, _, rfl, pen1.le (by omega)⟩ (fun i σ X hi pv0 => ?_) (fun σ X pv0 => ?_)⟩
    · obtain ⟨x2, x3, x4, x5, x6, x7, x8, x9, x10, x11, x12, x13, x14, rfl, penX⟩ := pv0
      refine fun s0 => ?_
      refine ⟨_, rfl, d, c, 700 * i, ms, rfl, penX, by omega, fun z H2 sz pen2 bb2 => fun s1 k1 => fun m1 hm1 => ?_⟩
      have z2 := sz.two
      have z3 := sz.three
      refine ⟨_, rfl, fun _ _ => ⟨_, rfl, fun _ _ => fun t2 s2 k2 l2 t3 s3 k3 l3 => ⟨d, c, 700 * i + 4, ms, z, 1, 3, rfl, pen2, by omega, by omega, by omega, by decide, by decide, fun was t s4 H4 hwas w1 w3 g1 g2 pen4 bb4 kp4 => ?_⟩⟩⟩
      refine ⟨_, rfl, fun _ _ => ⟨_, rfl, fun _ _ => fun t5 s5 k5 l5 t6 s6 k6 l6 => ⟨d, c, 700 * i + 4 + (1 + 3), ms, z, 0, 3, rfl, pen4.le (by omega), by omega, by omega, by omega, by decide, by decide, fun fr u s7 H7 hfr f0 f3 g3 g4 pen7 bb7 kp7 => ?_⟩⟩⟩
      refine ⟨_, _, _, _, rfl, rfl, fun s8 k8 fr8 => ?_⟩
      have o1 : 0 < t := Nat.lt_of_lt_of_le (Nat.lt_of_le_of_lt (Nat.zero_le _) l2) (Nat.le_trans k3.tk g1)
      have o2 : t < u := Nat.lt_of_lt_of_le g2 (Nat.le_trans k5.tk (Nat.le_trans k6.tk g3))
      have tk : TkOk was fr t u := ⟨Nat.ne_of_gt o1, Nat.ne_of_gt (Nat.lt_trans o1 o2), fun e => absurd e (Nat.ne_of_lt o2)⟩
      have swas : shortB was = true := short_of hwas sz (by omega) (by omega)
      have lwas : lineB was = true := lineB_short swas
      have nfr : newB fr = true := by
        show (lineB fr && decide (fr.length ≤ 8)) = true
        rw [line_of hfr sz, decide_eq_true (show fr.length ≤ 8 by omega)]
        rfl
      have hm8 := fr8 m1 (((k2.trans k3).trans (kp4.trans ((k5.trans k6).trans kp7))).fr m1 hm1)
      have e8w : (fun n => if n = ("_law_was" : Str) then some (Value.str was t) else if n = "_law_fresh" then some (Value.str fr u) else m1 n) "_law_was" = some (.str was t) := rfl
      have e8f : (fun n => if n = ("_law_was" : Str) then some (Value.str was t) else if n = "_law_fresh" then some (Value.str fr u) else m1 n) "_law_fresh" = some (.str fr u) := rfl
      generalize (fun n => if n = ("_law_was" : Str) then some (Value.str was t) else if n = "_law_fresh" then some (Value.str fr u) else m1 n) = m8 at hm8 e8w e8f
      refine ⟨_, rfl, _, rfl, rfl, sgsZ, rfl, (by decide +kernel), fun L nL => ?_⟩
      have sL := same_upd (o := .lst (sgsZ.cps.toList.map fun c => V.str ⟨#[c]⟩)) nL
      refine ⟨d, c, L, 700 * i + 12, ms, _, rfl, (pen7.keep sL).le (by omega), by omega, upd_same, (by rw [List.length_map]; decide +kernel), fun R ws H8 hR perm pen8 nR bb8 => ?_⟩
      obtain ⟨l', pl, rfl⟩ := perm_codes (l := cod sgsZ) perm
      refine ⟨_, rfl, d, c, 700 * i + 12 + 200, ms, 5, rfl, pen8, by omega, by decide, by decide, fun r H9 r0 r1 pen9 bb9 => ?_⟩
      obtain ⟨r, rfl⟩ := Int.eq_ofNat_of_zero_le r0
      have r5 : r < 5 := by omega
      have nRd : R ≠ d := by
        obtain ⟨kv, hd⟩ := pen8.dict
        exact ne_of hR hd (by intro e; cases e)
      refine ⟨_, _, rfl, rfl, _, rfl, R, _, rfl, SqL.of (bb9 _ _ hR nRd), fun Sp nSp => ?_⟩
      have en : ((2 : Int) + ((r : Nat) : Int)) = ((2 + r : Nat) : Int) := rfl
      rw [en, cs_cut]
      have sSp := same_upd (o := .lst (cs (l'.take (2 + r)))) nSp
      have len94 : l'.length = (cod sgsZ).length := pl.length_eq
      have l94 : (cod sgsZ).length = 94 := by decide +kernel
      have lentk : (l'.take (2 + r)).length = 2 + r := by rw [List.length_take]; omega
      refine ⟨Sp, (l'.take (2 + r)).map sg, rfl, (by rw [← cs_strs]; exact SqL.of upd_same), (by rw [sum_sg, List.length_map]; show _ + _ * 0 ≤ 16777216; omega), fun u9 s9 r9 kp9 => fun s10 k10 f10 => ?_⟩
      have ej : cod (Txt.join "" ((l'.take (2 + r)).map sg)) = l'.take (2 + r) := join_sg _
      have ell : (Txt.join "" ((l'.take (2 + r)).map sg)).length = 2 + r := by rw [← len_cod, ej, lentk]
      have ndl : (cod (Txt.join "" ((l'.take (2 + r)).map sg))).Nodup := by
        rw [ej]
        exact (pl.nodup_iff.mpr sgs_nd).sublist (List.take_sublist _ _)
      have ltl : ∀ x ∈ cod (Txt.join "" ((l'.take (2 + r)).map sg)), Lt x := fun x hx => by
        rw [ej] at hx
        exact sgs_lt x (pl.mem_iff.mp (List.mem_of_mem_take hx))
      have hm10 := f10 m8 (kp9.fr m8 hm8)
      have e10w : (fun n => if n = ("_law_letters" : Str) then some u9 else m8 n) "_law_was" = some (.str was t) := e8w
      have e10f : (fun n => if n = ("_law_letters" : Str) then some u9 else m8 n) "_law_fresh" = some (.str fr u) := e8f
      generalize (fun n => if n = ("_law_letters" : Str) then some u9 else m8 n) = m10 at hm10 e10w e10f
      have pen10 : PenAt (upd H9 Sp (.lst (cs (l'.take (2 + r))))) d c (700 * i + 213) ms := (pen9.keep sSp).le (by omega)
      generalize Txt.join "" ((l'.take (2 + r)).map sg) = lt at ej ell ndl ltl
      generalize upd H9 Sp (.lst (cs (l'.take (2 + r)))) = H10 at pen10
      have lts : lt.length ≤ sizeLine := Nat.le_trans (show lt.length ≤ 6 by omega) (by decide)
      have lc0 : 0 < (cod lt).length := by rw [len_cod]; omega
      have h0 : (cod lt)[0]? = some ((cod lt)[0]'lc0) := List.getElem?_eq_getElem lc0
      generalize (cod lt)[0]'lc0 = c0 at h0
      have at0 : atI lt.cps.toList 0 = some c0 := atI_nat (j := 0) h0
      have TT := turn_of ndl ltl (by omega) (by omega) h0
      have tl6 := TT.len
      generalize hto : cutS lt (some ((1 : Nat) : Int)) none ++ ⟨#[c0]⟩ = to at TT tl6
      have hto' : cutS lt (some 1) none ++ ⟨#[c0]⟩ = to := hto
      have ladd : (cutS lt (some 1) none).length + (⟨#[c0]⟩ : Str).length ≤ sizeLine := Nat.le_trans (Nat.add_le_add (cutS_length lt _ _) (Nat.le_refl _)) (Nat.le_trans (show lt.length + 1 ≤ 7 by omega) (by decide))
      refine ⟨_, rfl, _, rfl, _, rfl, lt, rfl, lts, _, rfl, lt, 0, c0, rfl, rfl, lts, at0, _, _, rfl, rfl, ladd, ?_⟩
      rw [hto']
      have AV : ∀ (G : Hp) (x : Str), x.length ≤ 100 → AnyV G (.str x) := fun G x h => .str x (by omega)
      have ok1 := TT.ok1
      have ok2 := TT.ok2
      obtain ⟨s11, s12, s13⟩ := ok1.sw rfl
      obtain ⟨s21, s22, s23⟩ := ok2.sw rfl
      have oth1 : othB (.str lt) (.str to) = true := by
        show (lineB to && decide (to.length = lt.length)) = true
        rw [show lineB to = true from s12, decide_eq_true (show to.length = lt.length from s13)]
        rfl
      have oth2 : othB (.str to) (.str lt) = true := by
        show (lineB lt && decide (lt.length = to.length)) = true
        rw [show lineB lt = true from s22, decide_eq_true (show lt.length = to.length from s23)]
        rfl
      refine fun sw sd nsw nsd nse => ⟨sw, sd, _, _, rfl, upd_same, AV _ _ (by omega), AV _ _ (by omega), fun _ _ H11 hSw b11 => ⟨rfl, fun u11 s11' r11 kp11 => ?_⟩, fun no => absurd s11 (by rw [show letB lt = false from no]; decide), fun _ no => absurd oth1 (by rw [no]; decide)⟩
      have S11 := made_same nsw nsd b11
      refine ⟨_, rfl, _, rfl, lt, rfl, lts, _, rfl, lt, 0, c0, rfl, rfl, lts, at0, _, _, rfl, rfl, ladd, ?_⟩
      rw [hto']
      refine ⟨_, rfl, fun hm hd' nhm nhd nhe => ⟨hm, hd', _, _, rfl, upd_same, AV _ _ (by omega), AV _ _ (by omega), fun _ _ H12 hHm b12 => ⟨rfl, fun u12 s12' r12 kp12 => ?_⟩, fun no => absurd s21 (by rw [show letB to = false from no]; decide), fun _ no => absurd oth2 (by rw [no]; decide)⟩⟩
      have S12 := made_same nhm nhd b12
      refine ⟨_, _, _, _, rfl, rfl, fun s13' k13 f13 => ?_⟩
      have hm13 := f13 m10 (kp12.fr _ (kp11.fr _ hm10))
      have e13w : (fun n => if n = ("_law_swap" : Str) then some u11 else if n = "_law_home" then some u12 else m10 n) "_law_was" = some (.str was t) := e10w
      have e13f : (fun n => if n = ("_law_swap" : Str) then some u11 else if n = "_law_home" then some u12 else m10 n) "_law_fresh" = some (.str fr u) := e10f
      generalize (fun n => if n = ("_law_swap" : Str) then some u11 else if n = "_law_home" then some u12 else m10 n) = m13 at hm13 e13w e13f
      have caS : CA C H12 ⟨2, lt, to⟩ (.ref sw) := CA.same S12 ⟨by show 2 < 5; decide, sw, sd, rfl, .inr ⟨by show 2 ≤ 2; decide, hSw⟩⟩
      have caH : CA C H12 ⟨2, to, lt⟩ (.ref hm) := ⟨by show 2 < 5; decide, hm, hd', rfl, .inr ⟨by show 2 ≤ 2; decide, hHm⟩⟩
      have pen12 := (pen10.keep S11).keep S12
      obtain ⟨kd12, hd12⟩ := pen12.dict
      refine ⟨_, rfl, _, rfl, d, c, 700 * i + 213, ms, z, 2, 2, rfl, pen12, by omega, sz, by decide, by decide, by decide, by decide, fun D1 ch1 us1 H13 hD1 nD1 pr1 good1 len1 pen13 bb13 => ?_⟩
      refine ⟨D1, ch1, us1, rfl, hD1, pr1, (fun c hc => (good1 c hc).1), by omega, fun R1 ws1 H14 hR1 pw1 nR1 S14 => fun u14 s14 r14 kp14 => ?_⟩
      have pen14 := pen13.keep S14
      obtain ⟨kd14, hd14⟩ := pen14.dict
      have caS14 := (caS.but bb13 hd12).same S14
      have caH14 := (caH.but bb13 hd12).same S14
      refine ⟨_, rfl, _, rfl, d, c, 700 * i + 213 + 81, ms, z, 2, 2, rfl, pen14, by omega, sz, by decide, by decide, by decide, by decide, fun D2 ch2 us2 H15 hD2 nD2 pr2 good2 len2 pen15 bb15 => ?_⟩
      refine ⟨D2, ch2, us2, rfl, hD2, pr2, (fun c hc => (good2 c hc).1), by omega, fun R2 ws2 H16 hR2 pw2 nR2 S16 => fun u16 s16 r16 kp16 => ?_⟩
      have pen16 := pen15.keep S16
      have caS16 := (caS14.but bb15 hd14).same S16
      have caH16 := (caH14.but bb15 hd14).same S16
      have hR116 : H16 R1 = some (.lst ws1) := S16 _ _ (bb15 _ _ hR1 (ne_of hR1 hd14 (by intro e; cases e)))
      have pw116 : Prs (CA C H16) ch1 ws1 := pw1.imp fun c u _ h => (h.but bb15 hd14).same S16
      refine ⟨_, _, _, _, rfl, rfl, fun s17 k17 f17 => ?_⟩
      have hm17 := f17 m13 (kp16.fr _ (kp14.fr _ hm13))
      have e17w : (fun n => if n = ("_law_one" : Str) then some u14 else if n = "_law_other" then some u16 else m13 n) "_law_was" = some (.str was t) := e13w
      have e17f : (fun n => if n = ("_law_one" : Str) then some u14 else if n = "_law_other" then some u16 else m13 n) "_law_fresh" = some (.str fr u) := e13f
      generalize (fun n => if n = ("_law_one" : Str) then some u14 else if n = "_law_other" then some u16 else m13 n) = m17 at hm17 e17w e17f
      have g1 : ∀ c ∈ ch1, GoodCh c := good1
      have g2 : ∀ c ∈ ch2, GoodCh c := good2
      refine ⟨fun j s' σ' X' => ∃ (m : Str → Option Value) (y11 y12 y13 y14 : Option V), s'.heap.Ns s.heap.objs.size m ∧ m "_law_was" = some (.str was t) ∧ m "_law_fresh" = some (.str fr u) ∧ σ' = [some (.ref a), some (.ref d), some (.int (0 + (i : Int))), some (.str z), some (.str was), some (.str fr), some (.str lt), some (.ref sw), some (.ref hm), some (.ref R1), some (.ref R2), y11, y12, y13, y14] ∧ PenAt X' d c (700 * i + 375 + 26 * j) ms ∧ CA C X' ⟨2, lt, to⟩ (.ref sw) ∧ CA C X' ⟨2, to, lt⟩ (.ref hm) ∧ X' R1 = some (.lst ws1) ∧ Prs (CA C X') ch1 ws1 ∧ X' R2 = some (.lst ws2) ∧ Prs (CA C X') ch2 ws2,
        fun s' kp => ⟨m17, x11, x12, x13, x14, kp.fr m17 hm17, e17w, e17f, rfl, pen16.le (by omega), caS16, caH16, hR116, pw116, hR2, pw2⟩, fun j s1 σ1 G hj pv s2 tt k2' fr2 => ?_, fun s1 σ1 G pv s2 kp => ?_⟩
      · obtain ⟨m, y11, y12, y13, y14, hmm, ew, ef, rfl, penG, caS, caH, hR1, pr1, hR2, pr2⟩ := pv
        have hm2 := fr2 m hmm
        have e2w : (fun n => if n = ("_law_again" : Str) then some (Value.int ((j : Nat) : Int) tt) else m n) "_law_was" = some (.str was t) := ew
        have e2f : (fun n => if n = ("_law_again" : Str) then some (Value.int ((j : Nat) : Int) tt) else m n) "_law_fresh" = some (.str fr u) := ef
        generalize (fun n => if n = ("_law_again" : Str) then some (Value.int ((j : Nat) : Int) tt) else m n) = m2 at hm2 e2w e2f
        have z3 := prs_few pr1
        have z4 := prs_few pr2
        have wl3 : was.length ≤ 3 := by omega
        have fl3 : fr.length ≤ 3 := by omega
        have ltl2 : (cutS lt none (some 2)).length ≤ 6 := Nat.le_trans (cutS_length lt _ _) (by omega)
        have lad1 : z.length + (cutS lt none (some 2)).length ≤ 10 := by omega
        have sgl : ∀ x ∈ cod (z ++ cutS lt none (some 2)), Lt x := fun x hx => by
          rw [cod_add, List.mem_append] at hx
          rcases hx with hx | hx
          · exact sz.lets x hx
          · have e2 : cutS lt none (some 2) = cutS lt none (some ((2 : Nat) : Int)) := rfl
            rw [e2, cod_pre] at hx
            exact ltl x (List.mem_of_mem_take hx)
        refine ⟨_, rfl, _, rfl, _, rfl, (by show 2 ≤ sizeLine; decide), fun W nW => ?_⟩
        have sW := same_upd (o := .lst [.str was, .str fr]) nW
        refine ⟨_, rfl, _, rfl, _, rfl, lt, rfl, lts, _, _, rfl, rfl, Nat.le_trans lad1 (by decide), d, c, W, 700 * i + 375 + 26 * j, ms, [was, fr], _, rfl, penG.keep sW, by omega, upd_same, (by show 2 ≤ 20; decide), fun y hy => ?_, ⟨sgl, by rw [← len_cod, cod_add, List.length_append, len_cod, len_cod]; exact lad1⟩, fun y H2 ly yl pen2 bb2 => fun u3 s3 r3 kp3 => fun s4 k4 f4 => ?_⟩
        · rcases List.mem_cons.mp hy with rfl | hy
          · exact ⟨lwas, by omega⟩
          · rw [List.mem_singleton] at hy
            subst hy
            exact ⟨line_of hfr sz, by omega⟩
        have hm4 := f4 m2 (kp3.fr m2 hm2)
        have e4w : (fun n => if n = ("_law_row_here" : Str) then some u3 else m2 n) "_law_was" = some (.str was t) := e2w
        have e4f : (fun n => if n = ("_law_row_here" : Str) then some u3 else m2 n) "_law_fresh" = some (.str fr u) := e2f
        generalize (fun n => if n = ("_law_row_here" : Str) then some u3 else m2 n) = m4 at hm4 e4w e4f
        obtain ⟨kd1, hd1⟩ := (penG.keep sW).dict
        have caS2 := (caS.same sW).but bb2 hd1
        have caH2 := (caH.same sW).but bb2 hd1
        have kR1 : H2 R1 = some (.lst ws1) := bb2 _ _ (sW _ _ hR1) (ne_of (sW _ _ hR1) hd1 (by intro e; cases e))
        have kR2 : H2 R2 = some (.lst ws2) := bb2 _ _ (sW _ _ hR2) (ne_of (sW _ _ hR2) hd1 (by intro e; cases e))
        have kp1 : Prs (CA C H2) ch1 ws1 := pr1.imp fun c u _ h => (h.same sW).but bb2 hd1
        have kp2 : Prs (CA C H2) ch2 ws2 := pr2.imp fun c u _ h => (h.same sW).but bb2 hd1
        refine ⟨_, m4, _, rfl, hm4, e4w, fun _ => ⟨_, m4, _, rfl, hm4, e4f, fun _ => ⟨_, rfl, fun uz _ => ⟨was, fr, y, t, u, uz, rfl, rfl, tk, swas, nfr, wl3, fl3, yl, ly, fun s5 H3 S3 => fun kp5 => ⟨true, rfl, ?_⟩⟩⟩⟩⟩
        have hm5 := kp5.fr m4 hm4
        have pen3 := pen2.keep S3
        obtain ⟨kd3, hd3⟩ := pen3.dict
        have yls : y.length ≤ sizeLine := Nat.le_trans yl (by decide)
        refine ⟨_, rfl, _, rfl, y, rfl, yls, _, _, rfl, rfl, d, c, 700 * i + 375 + 26 * j + 25, ms, _, rfl, pen3, by omega, by omega, by omega, fun cu H4 c0' c1' pen4 bb4 => fun u6 s6 r6 kp6 => fun s7 k7 f7 => ?_⟩
        obtain ⟨cu, rfl⟩ := Int.eq_ofNat_of_zero_le c0'
        have cy : cu ≤ y.length := by omega
        have hm7 := f7 m4 (kp6.fr m4 hm5)
        have e7w : (fun n => if n = ("_law_cut" : Str) then some u6 else m4 n) "_law_was" = some (.str was t) := e4w
        have e7f : (fun n => if n = ("_law_cut" : Str) then some u6 else m4 n) "_law_fresh" = some (.str fr u) := e4f
        generalize (fun n => if n = ("_law_cut" : Str) then some u6 else m4 n) = m7 at hm7 e7w e7f
        have caS4 := (caS2.same S3).but bb4 hd3
        have caH4 := (caH2.same S3).but bb4 hd3
        have kR14 : H4 R1 = some (.lst ws1) := bb4 _ _ (S3 _ _ kR1) (ne_of (S3 _ _ kR1) hd3 (by intro e; cases e))
        have kR24 : H4 R2 = some (.lst ws2) := bb4 _ _ (S3 _ _ kR2) (ne_of (S3 _ _ kR2) hd3 (by intro e; cases e))
        have kp14 : Prs (CA C H4) ch1 ws1 := kp1.imp fun c u _ h => (h.same S3).but bb4 hd3
        have kp24 : Prs (CA C H4) ch2 ws2 := kp2.imp fun c u _ h => (h.same S3).but bb4 hd3
        obtain ⟨dS, inS⟩ := caS4.insR
        have y14 : y.length ≤ 10000 := by omega
        refine ⟨_, rfl, sw, dS, _, rfl, inS, flds_no, _, rfl, ⟨2, lt, to⟩, _, y, rfl, caS4, rfl, ok1, y14, fun H5 S5 => fun u8 s8 r8 kp8 => fun s9 k9 f9 => ?_⟩
        have hm9 := f9 m7 (kp8.fr m7 hm7)
        have e9w : (fun n => if n = ("_law_told" : Str) then some u8 else m7 n) "_law_was" = some (.str was t) := e7w
        have e9f : (fun n => if n = ("_law_told" : Str) then some u8 else m7 n) "_law_fresh" = some (.str fr u) := e7f
        generalize (fun n => if n = ("_law_told" : Str) then some u8 else m7 n) = m9 at hm9 e9w e9f
        have tlen : (Ch.done ⟨2, lt, to⟩ y).length = y.length := swap_len
        have tback := TT.back y
        have tcut := swap_cut (l := lt) (o := to) (z := y) cy
        generalize hT : Ch.done ⟨2, lt, to⟩ y = told at tlen tback tcut
        have caH5 := caH4.same S5
        have caS5 := caS4.same S5
        obtain ⟨dH, inH⟩ := caH5.insR
        refine ⟨_, rfl, hm, dH, _, rfl, inH, flds_no, _, rfl, ⟨2, to, lt⟩, _, told, rfl, caH5, rfl, ok2, by omega, fun H6 S6 => ?_⟩
        rw [tback]
        have tls : told.length ≤ sizeLine := by rw [tlen]; exact yls
        refine ⟨_, rfl, _, _, rfl, rfl, _, rfl, ?_⟩
        rw [ne_sameS]
        refine iteF ⟨_, rfl, told, rfl, tls, _, rfl, y, rfl, yls, _, _, rfl, rfl, _, rfl, ?_⟩
        rw [tlen, show (!decide (((y.length : Nat) : Int) = (y.length : Int))) = false from by simp]
        refine fun s10 kp10 => iteF ?_
        have hm10 := kp10.fr m9 hm9
        have caS6 := caS5.same S6
        obtain ⟨dS6, inS6⟩ := caS6.insR
        have lcA : (cutS y none (some ((cu : Nat) : Int))).length ≤ 14 := Nat.le_trans (cutS_length y _ _) yl
        have lcB : (cutS y (some ((cu : Nat) : Int)) none).length ≤ 14 := Nat.le_trans (cutS_length y _ _) yl
        refine ⟨_, rfl, _, rfl, sw, dS6, _, rfl, inS6, flds_no, _, rfl, _, rfl, _, rfl, y, rfl, yls, ⟨2, lt, to⟩, _, _, rfl, caS6, rfl, ok1, by omega, fun H7 S7 => ?_⟩
        have caS7 := caS6.same S7
        obtain ⟨dS7, inS7⟩ := caS7.insR
        refine ⟨_, rfl, sw, dS7, _, rfl, inS7, flds_no, _, rfl, _, rfl, _, rfl, y, rfl, yls, ⟨2, lt, to⟩, _, _, rfl, caS7, rfl, ok1, by omega, fun H8 S8 => ⟨_, _, rfl, rfl, ?_, _, _, rfl, rfl, _, rfl, ?_⟩⟩
        · rw [swap_len, swap_len]
          exact Nat.le_trans (Nat.add_le_add lcA lcB) (by decide)
        rw [← tcut, ne_sameS]
        refine fun s11 kp11 => iteF ?_
        have hm11 := kp11.fr m9 hm10
        have okF : ChOk ⟨3, was, ""⟩ := ⟨by show was.length < 100; omega, by show (0 : Nat) < 100; decide, fun _ => swas, fun e => absurd (show (3 : Nat) < 2 from e) (by decide), fun e => absurd (show (3 : Nat) = 2 from e) (by decide)⟩
        have okB : ChOk ⟨4, was, ""⟩ := ⟨by show was.length < 100; omega, by show (0 : Nat) < 100; decide, fun _ => swas, fun e => absurd (show (4 : Nat) < 2 from e) (by decide), fun e => absurd (show (4 : Nat) = 2 from e) (by decide)⟩
        refine ⟨_, rfl, fun ea edx nea ned nee => ⟨ea, edx, _, rfl, upd_same, AV _ _ (by omega), fun _ H9 hF b9 => ⟨rfl, ?_⟩, fun no => absurd swas (by rw [show shortB was = false from no]; decide)⟩⟩
        have S9 := made_same nea ned b9
        have caF : CA C H9 ⟨3, was, ""⟩ (.ref ea) := ⟨by show 3 < 5; decide, ea, edx, rfl, .inr ⟨by show 2 ≤ 3; decide, hF⟩⟩
        obtain ⟨dF, inF⟩ := caF.insR
        refine ⟨ea, dF, _, rfl, inF, flds_no, _, rfl, fun ba bdx nba nbd nbe => ⟨ba, bdx, _, rfl, upd_same, AV _ _ (by omega), fun _ H10' hB b10 => ⟨rfl, ?_⟩, fun no => absurd swas (by rw [show shortB was = false from no]; decide)⟩⟩
        have S10 := made_same nba nbd b10
        have caB : CA C H10' ⟨4, was, ""⟩ (.ref ba) := ⟨by show 4 < 5; decide, ba, bdx, rfl, .inr ⟨by show 2 ≤ 4; decide, hB⟩⟩
        obtain ⟨dB, inB⟩ := caB.insR
        have lya : (Ch.done ⟨4, was, ""⟩ y).length ≤ 10000 := by
          show (y ++ was).length ≤ 10000
          rw [← len_cod, cod_add, List.length_append, len_cod, len_cod]
          omega
        have lsum : was.length + y.length ≤ sizeLine := Nat.le_trans (Nat.add_le_add wl3 yl) (by decide)
        have lsum2 : (was ++ y).length + was.length ≤ sizeLine := by
          rw [← len_cod, cod_add, List.length_append, len_cod, len_cod]
          exact Nat.le_trans (Nat.add_le_add (Nat.add_le_add wl3 yl) wl3) (by decide)
        have assoc : Ch.done ⟨3, was, ""⟩ (Ch.done ⟨4, was, ""⟩ y) = was ++ y ++ was := by
          show was ++ (y ++ was) = was ++ y ++ was
          refine cod_inj ?_
          rw [cod_add, cod_add, cod_add, cod_add, List.append_assoc]
        refine ⟨ba, dB, _, rfl, inB, flds_no, _, rfl, ⟨4, was, ""⟩, _, y, rfl, caB, rfl, okB, y14, fun G1 T1 => ⟨⟨3, was, ""⟩, _, _, rfl, (caF.same S10).same T1, rfl, okF, lya, fun G2 T2 => ?_⟩⟩
        rw [assoc]
        refine ⟨_, rfl, _, rfl, _, _, rfl, rfl, lsum, _, rfl, _, _, rfl, rfl, lsum2, _, _, rfl, rfl, _, rfl, ?_⟩
        rw [ne_sameS]
        refine iteF ⟨(by show 0 ≤ sizeLine; exact Nat.zero_le _), fun el nel => ?_⟩
        have sel := same_upd (o := .lst []) nel
        refine ⟨_, rfl, el, [], [], y, rfl, SqL.of upd_same, (fun H' s => SqL.of (s _ _ upd_same)), prs_nil, (fun c hc => absurd hc List.not_mem_nil), ⟨0, by omega, by decide⟩, fun G3 T3 => ⟨_, rfl, _, _, rfl, rfl, _, rfl, ?_⟩⟩
        rw [show doneL [] y = y from rfl, ne_sameS]
        refine fun s12 kp12 => iteF ?_
        have hm12 := kp12.fr m9 hm11
        have SS : Same H4 G3 := ((((((((S5.trans S6).trans S7).trans S8).trans S9).trans S10).trans T1).trans T2).trans sel).trans T3
        have lw1 : ws1.length ≤ 2 := by rw [pr1.1]; have := len1; omega
        have lw2 : ws2.length ≤ 2 := by rw [pr2.1]; have := len2; omega
        refine ⟨_, rfl, _, rfl, R1, R2, ws1, ws2, rfl, rfl, SS _ _ kR14, SS _ _ kR24, Nat.le_trans (Nat.add_le_add lw1 lw2) (by decide), fun R3 nR3 => ?_⟩
        have s3 := same_upd (o := .lst (ws1 ++ ws2)) nR3
        have SA := SS.trans s3
        have fit := doneL_fits yl ch1.length ch1 rfl g1 z3
        refine ⟨_, rfl, R3, ch1 ++ ch2, ws1 ++ ws2, y, rfl, SqL.of upd_same, (fun H' s => SqL.of (s _ _ upd_same)), prs_app (kp14.imp fun c u _ h => h.same SA) (kp24.imp fun c u _ h => h.same SA), (fun c hc => (List.mem_append.mp hc).elim (g1 c) (g2 c)), ⟨0, by omega, by rw [List.length_append]; omega⟩, fun G4 T4 => ?_⟩
        have SB := SA.trans T4
        refine ⟨_, rfl, _, rfl, R1, ws1, rfl, SqL.of (SB _ _ kR14), fun l nl => ?_⟩
        have sl := same_upd (o := .tup ws1) nl
        have SC := SB.trans sl
        refine ⟨_, rfl, l, ch1, ws1, y, rfl, SqT.of upd_same, (fun H' s => SqT.of (s _ _ upd_same)), (kp14.imp fun c u _ h => h.same SC), g1, ⟨0, by omega, by omega⟩, fun G5 T5 => ?_⟩
        have SD := SC.trans T5
        refine ⟨R2, ch2, ws2, _, rfl, SqL.of (SD _ _ kR24), (fun H' s => SqL.of (s _ _ (SD _ _ kR24))), (kp24.imp fun c u _ h => h.same SD), g2, ⟨ch1.length, fit, by omega⟩, fun G6 T6 => ⟨_, _, rfl, rfl, _, rfl, ?_⟩⟩
        rw [doneL_app, ne_sameS]
        refine fun s13 kp13 => iteF ?_
        have SE := SD.trans T6
        exact ⟨m9, _, _, _, _, kp13.fr m9 hm12, e9w, e9f, rfl, (pen4.keep SE).le (by omega), caS4.same SE, caH4.same SE, SE _ _ kR14, (kp14.imp fun c u _ h => h.same SE), SE _ _ kR24, (kp24.imp fun c u _ h => h.same SE)⟩
      · obtain ⟨m, y11, y12, y13, y14, _, _, _, rfl, pen, _⟩ := pv
        exact ⟨_, _, _, _, _, _, _, _, _, _, _, _, _, rfl, pen.le (by omega)⟩
    · exact k _
end
end LA
end
section
set_option Elab.async false
set_option linter.all false
set_option maxRecDepth 100000
set_option maxHeartbeats 4100000
namespace XK
open PySem PySem.Spec PyProof.Rows L2 LamX
/-! ### a law that makes lambdas and calls repr: its own def, attached where no repr is under way, with tables of code objects -/
theorem caller_runsT {P : Program} {w : World} {K : PySem.W.Frag} {mg mb : Str → Option Value} {k : Nat} {fa a : Addr} {cs : List (Addr × Addr)} {fd : FuncData} {x : Str} {sp : Sp} {s₁ : Shared} {vs : List Value} {ns : List Int}
    (inn : K.In s₁.heap) (glob : s₁.heap.Ns mainGlobals mg) (bns : s₁.heap.Ns builtinsNs mb) (boot : ∀ x : Str, x ≠ "__name__" → mb x = bootBuiltins x) (lim : s₁.heap.NoLimit) (gens : s₁.gens = #[])
    (tabs : ∀ p ∈ cs, s₁.heap.get? p.2 = some { cls := .none, data := .fields #[] }) (notK : ∀ p ∈ cs, K.lookup p.2 = none) (codes : ∀ p ∈ cs, PySem.W.CodeHd s₁.heap p.1 p.2)
    (bmod : ∃ (bm : Addr) (ob : Obj), mg "__builtins__" = some (.ref bm) ∧ bm ≠ builtinsNs ∧ s₁.heap.get? bm = some ob ∧ ob.cls = .type "module" ∧ ob.dict = some builtinsNs ∧ ob.data = .plain)
    (obj : s₁.heap.get? a = some { cls := .type "list", data := .seq vs.toArray }) (inz : IntsAre vs ns) (short : ns.length ≤ sizeLine) (room : Room k callerA)
    (F : ∀ base : Heap, K.In base → base.Ns mainGlobals mg → (∀ p ∈ cs, TabB base mg p.1 p.2) → AtCaller P w K mg base CX0 k fa fd [x] sp) (bind : ∀ (s : Shared) (u : Value), BindsTo s fd ⟨[u], []⟩ [(x, u)])
    (want : ∀ H : Hp, (∀ p ∈ cs, H p.2 = some (.tbl #[])) → SqL K H a (ns.map V.int) → sp [.ref a] H (fun v _ => v = .bl true) fun _ _ _ => False) :
    codeAny (model P w) callerA (.call (.ref fa) ⟨[.ref a], []⟩) (fun r s' => r = .ok (.ret (.bool true)) ∧ OldK s₁.heap s'.heap ∧ s'.os = s₁.os ∧ AllBare s'.gens) s₁ := by
  have vals := vals_ints inz
  have many := inz.length
  have tabAt : ∀ b ∈ cs.map (·.2), s₁.heap.get? b = some { cls := .none, data := .fields #[] } := fun b hb => by
    obtain ⟨p, hp, e⟩ := List.mem_map.mp hb
    rw [← e]
    exact tabs p hp
  have aOut : a ∉ cs.map (·.2) := fun z => by
    have q := (tabAt a z).symm.trans obj
    have q := congrArg Obj.data (Option.some.inj q)
    cases q
  have inT : ∀ p ∈ cs, p.2 ∈ cs.map (·.2) := fun p hp => List.mem_map.mpr ⟨p, hp, rfl⟩
  have main : ∀ H : Hp, (∀ p ∈ cs, H p.2 = some (.tbl #[])) → (∀ b, H b = none ∨ b ∈ cs.map (·.2) ∨ ∃ ob xs, H b = some (.frz ob (.lst xs))) → SqL K H a (ns.map V.int) → HOk P w H s₁.heap → (∀ b, H b ≠ none → b = a ∨ b ∈ cs.map (·.2)) → (H a ≠ none → K.lookup a = none) →
      codeAny (model P w) callerA (.call (.ref fa) ⟨[.ref a], []⟩) (fun r s' => r = .ok (.ret (.bool true)) ∧ OldK s₁.heap s'.heap ∧ s'.os = s₁.os ∧ AllBare s'.gens) s₁ := by
    intro H tH kinds seq ok alone noK
    have plain : ∀ {b : Addr} {o : Obj}, s₁.heap.get? b = some o → (∀ us n, o.data ≠ .seq us n) → o.data ≠ .fields #[] → H b = none := fun {b o} e n1 n2 => by
      cases q : H b with
      | none => rfl
      | some u =>
        cases alone b (by rw [q]; simp) with
        | inl z =>
          rw [z, obj] at e
          cases e
          exact (n1 _ _ rfl).elim
        | inr z =>
          rw [tabAt b z] at e
          cases e
          exact (n2 rfl).elim
    have dct : ∀ {b : Addr} {o : Obj} {es : Array DictEntry} {ep : Nat}, s₁.heap.get? b = some o → o.data = .dict es ep → H b = none := fun {b o es ep} e d => plain e (fun us n z => by rw [d] at z; cases z) fun z => by rw [d] at z; cases z
    have space : ∀ {b : Addr} {m : Str → Option Value}, s₁.heap.Ns b m → (hidT s₁.heap H).Ns b m := fun {b m} ⟨o, es, ep, e, d, r⟩ => ⟨o, es, ep, hidT_get e (dct e d), d, r⟩
    have kept : K.In (hidT s₁.heap H) := fun b o e => hidT_get (inn b o e) (by
      cases q : H b with
      | none => rfl
      | some u =>
        cases alone b (by rw [q]; simp) with
        | inl z =>
          rw [z] at e q
          rw [noK (by rw [q]; simp)] at e
          cases e
        | inr z =>
          obtain ⟨p, hp, ep⟩ := List.mem_map.mp z
          rw [← ep, notK p hp] at e
          cases e)
    have md : Mod K mg (hidT s₁.heap H) := ⟨kept, space glob, ⟨mb, space bns, boot⟩, by
      obtain ⟨mc, h1, h2⟩ := lim
      exact ⟨mc, space h1, h2⟩⟩
    have env : Env0 P w K mg (hidT s₁.heap H) callerA [] s₁ H := ⟨rfl, md, fun b o e => of_hidT e, Nat.le_of_eq (hidT_size _ _), trivial, fun b hb => (by cases hb), ok, AllBare.of_eq gens⟩
    have tb : ∀ p ∈ cs, TabB (hidT s₁.heap H) mg p.1 p.2 := fun p hp => by
      have here := tabs p hp
      refine ⟨?_, ?_, fun z => ?_⟩
      · obtain ⟨o, us, file, tf, flags, tg, inF, text, tt, e1, r1, r2, r3, r4, r5, r6, r7, r8, last⟩ := codes p hp
        refine ⟨o, us, file, tf, flags, tg, inF, text, tt, hidT_get e1 (plain e1 (fun us n z => ?_) fun z => ?_), r1, r2, r3, r4, r5, r6, r7, r8, last⟩
        · rw [r2] at z
          cases z
        · rw [r2] at z
          cases z
          simp at r3
      · obtain ⟨bm, ob, b1, b2, b3, b4, b5, b6⟩ := bmod
        refine ⟨bm, ob, b1, b2, fun q => ?_, fun q => ?_, hidT_get b3 (plain b3 (fun us n z => by rw [b6] at z; cases z) fun z => by rw [b6] at z; cases z), b4, b5, b6⟩
        · obtain ⟨o, es, ep, e, d, _⟩ := glob
          rw [q, e] at b3
          cases b3
          rw [d] at b6
          cases b6
        · rw [q, here] at b3
          cases b3
          cases b6
      · obtain ⟨o, es, ep, e, d, _⟩ := glob
        rw [z, here] at e
        cases e
        cases d
    have res := (F _ kept (space glob) tb).go [] s₁ H ⟨[.ref a], []⟩ [.ref a] [.ref a] _ _ room env (bind s₁ (.ref a)) (.cons rfl .nil) (want H tH seq)
    refine codeAny_mono res fun r s' h => ?_
    cases r with
    | error e => exact False.elim h
    | ok fl =>
      cases fl with
      | next => exact False.elim h
      | brk => exact False.elim h
      | cont => exact False.elim h
      | ret u =>
        obtain ⟨v, H', os, bare, un, ok', rel, q⟩ := h
        obtain rfl : v = .bl true := q
        obtain rfl : u = Value.bool true := rel
        have stays : ∀ b o, b ∉ cs.map (·.2) → s₁.heap.get? b = some o → s'.heap.get? b = some o := fun b o nb e => by
          rcases kinds b with z | z | ⟨ob, xs, z⟩
          · exact un.keep b o e z (fun z => by cases z) (fun z => by cases z)
          · exact absurd z nb
          · obtain ⟨e1, _⟩ := ok b _ z
            obtain ⟨e2, _⟩ := ok' b _ (un.frzs b ob _ z)
            rw [e] at e1
            cases e1
            exact e2
        have grown : ∀ p ∈ cs, ∃ more : Array Value, s'.heap.get? p.2 = some { cls := .none, data := .fields more } := fun p hp => by
          obtain ⟨more, z⟩ := un.tbls p.2 #[] (tH p hp)
          exact ⟨_, ok' p.2 _ z⟩
        refine ⟨rfl, ⟨fun b o e => ?_, fun b o e => ?_⟩, os, bare⟩
        · by_cases hb : b ∈ cs.map (·.2)
          · obtain ⟨p, hp, ep⟩ := List.mem_map.mp hb
            obtain ⟨more, hm⟩ := grown p hp
            subst ep
            rw [tabs p hp] at e
            cases e
            exact .inr (.inl ⟨((codes p hp).tab (tabs p hp)).isCodeTable, rfl, #[], more, rfl, by rw [Array.empty_append]; exact hm⟩)
          · exact .inl (stays b o hb e)
        · by_cases hb : b ∈ cs.map (·.2)
          · obtain ⟨p, hp, ep⟩ := List.mem_map.mp hb
            obtain ⟨more, hm⟩ := grown p hp
            subst ep
            exact ⟨_, hm⟩
          · exact ⟨o, stays b o hb e⟩
  cases hk : K.lookup a with
  | some o =>
    have e := inn a o hk
    rw [obj] at e
    cases e
    refine main (fun b => if b ∈ cs.map (·.2) then some (.tbl #[]) else none) (fun p hp => if_pos (inT p hp)) (fun b => ?_) (.inr ⟨_, vs.toArray, _, hk, rfl, rfl, rfl, by rw [List.size_toArray, many]; exact short, by simpa using vals⟩) (fun b u z => ?_) (fun b z => ?_) fun z => absurd (if_neg aOut) z
    · by_cases hb : b ∈ cs.map (·.2)
      · exact .inr (.inl hb)
      · exact .inl (if_neg hb)
    · by_cases hb : b ∈ cs.map (·.2)
      · cases (if_pos hb).symm.trans z
        exact tabAt b hb
      · cases (if_neg hb).symm.trans z
    · by_cases hb : b ∈ cs.map (·.2)
      · exact .inr hb
      · exact absurd (if_neg hb) z
  | none =>
    refine main (fun b => if b = a then some (.frz { cls := .type "list", data := .seq vs.toArray } (.lst (ns.map V.int))) else if b ∈ cs.map (·.2) then some (.tbl #[]) else none) (fun p hp => (if_neg (fun z : p.2 = a => aOut (by rw [← z]; exact inT p hp))).trans (if_pos (inT p hp))) (fun b => ?_)
      (.inl (.inr ⟨_, if_pos rfl⟩)) (fun b u z => ?_) (fun b z => ?_) fun _ => hk
    · by_cases hb : b = a
      · exact .inr (.inr ⟨_, _, if_pos hb⟩)
      · by_cases h2 : b ∈ cs.map (·.2)
        · exact .inr (.inl h2)
        · exact .inl ((if_neg hb).trans (if_neg h2))
    · by_cases hb : b = a
      · cases (if_pos hb).symm.trans z
        rw [hb]
        exact ⟨obj, by rw [List.length_map]; exact short, vs, _, vals, obj⟩
      · have z1 := (if_neg hb).symm.trans z
        by_cases h2 : b ∈ cs.map (·.2)
        · cases (if_pos h2).symm.trans z1
          exact tabAt b h2
        · cases (if_neg h2).symm.trans z1
    · by_cases hb : b = a
      · exact .inl hb
      · by_cases h2 : b ∈ cs.map (·.2)
        · exact .inr h2
        · exact absurd ((if_neg hb).trans (if_neg h2)) z
/-- what is known of such a law at the head's heap h -/
def CallerAtT (l : PySem.W.OpenLaw) (w : World) (K : PySem.W.Frag) (k n : Nat) (x : Str) (mg : Str → Option Value) (fa : Addr) (h : Heap) : Prop :=
  ∃ (fd : FuncData) (cs : List (Addr × Addr)) (sp : Sp), (∀ p ∈ cs, h.get? p.2 = some { cls := .none, data := .fields #[] }) ∧ (∀ p ∈ cs, K.lookup p.2 = none) ∧ (∀ p ∈ cs, PySem.W.CodeHd h p.1 p.2) ∧ (∀ (s : Shared) (u : Value), BindsTo s fd ⟨[u], []⟩ [(x, u)]) ∧
    (∀ (H : Hp) (a : Addr) (ns : List Int), ns.length ≤ n → (∀ p ∈ cs, H p.2 = some (.tbl #[])) → SqL K H a (ns.map V.int) → sp [.ref a] H (fun v _ => v = .bl true) fun _ _ _ => False) ∧
    ∀ base : Heap, K.In base → base.Ns mainGlobals mg → (∀ p ∈ cs, TabB base mg p.1 p.2) → AtCaller l.prog w K mg base CX0 k fa fd [x] sp
theorem caller_walkT {l : PySem.W.OpenLaw} {n k : Nat} {q : Program} {loose : List Str} {XP : (Str → Option Value) → Heap → Prop} {YP : World → Heap → Prop} {d : DefRec} {K : Params → PySem.W.Frag} {x : Str}
    (most : l.most = some n) (small : n ≤ sizeLine) (plain : d.params.defaults = []) (room : Room k callerA) (Y : ∀ (w : World) (h : Heap), YP w h → (K w.params).In h)
    (F : ∀ (w : World) (mg : Str → Option Value) (fa : Addr) (h : Heap), YP w h → (K w.params).In h → h.Ns mainGlobals mg → mg d.name = some (.ref fa) → CallerAtT l w (K w.params) k n x mg fa h) :
    PySem.W.WalkO q loose XP YP l.row.toRowW d [] (fun f vs => PySem.call f vs) := by
  refine Att.attach_callB most plain fun w s₀ s₁ mg mb fa o pm cd doc a vs ns G y ho hd hcd hmg obj inz many _ gens => ?_
  have inn := Y w _ y
  obtain ⟨fd, cs, sp, tabs, notK, codes, bind, want, run⟩ := F w mg fa _ y inn G.T.g hmg
  exact caller_runsT inn G.T.g G.T.b G.T.builtins G.T.nolimit gens tabs notK codes G.T.bmain obj inz (Nat.le_trans many small) room run bind fun H hH seq => want H a ns many hH seq
/-- a law's own def whose code object is told -/
theorem atCallerC {P : Program} {w : World} {K : PySem.W.Frag} {mg : Str → Option Value} {base : Heap} {CX : CXT} {k : Nat} {f c : Addr} {fd : FuncData} {N ps : List Str} {sp : Sp} {x qual : Str} {st : Stmt}
    (F : ∃ (oc : Value) (od : Option Addr) (kV doc pm : Value) (an : Option Addr) (ct : Value) (osl : Array (Option Value)), fd = PySem.W.fnOf x qual (defArgs st) (defBody st) (defScope st) .none kV doc pm an (.ref c) ct ∧ K.lookup f = some ⟨oc, od, .func fd, osl⟩ ∧ PySem.W.codeIn K (.ref c) qual = true)
    (S : FnScope N ps (defScope st)) (len : ∀ vs H Q E, sp vs H Q E → vs.length = ps.length)
    (body : ∀ (outer : List Env) (s : Shared) (H : Hp) (vs : List V) (Q : VK) (E : XK), Room k (callerA.deeper (envOfC qual (defScope st) s.heap.objs.size f (.ref c))) → sp vs H Q E →
      ∃ t, PSs (cxOf CX P w K mg base N qual (defScope st) f (.ref c) callerA outer s H E).nox (defBody st) t ∧ t { nx := fun _ H' => Q .non H', rt := Q } (start N vs) H) : AtCaller P w K mg base CX (k + 1) f fd ps sp := by
  obtain ⟨oc, od, kV, doc, pm, an, ct, osl, rfl, lk, hcd⟩ := F
  constructor
  intro outer s H args us vs Q E room env bind rel want
  have count := len _ _ _ _ want
  have inn : K.In s.heap := env.mod.kin.keeps fun b o e => (env.bs b o e).1
  have lim : s.heap.NoLimit := env.mod.nolimit.keeps fun b o e => (env.bs b o e).1
  have kinds : ∀ y ∈ ps.zip us, (defScope st).names.lookup y.1 = some .local ∨ ((defScope st).names.lookup y.1 = some .cell ∧ ((cellsFrom (s.heap.objs.size + 1) (defScope st).names []).lookup y.1).isSome = true) := by
    intro y hy
    rcases S.par y.1 (List.of_mem_zip hy).1 with q | q
    · exact .inl q
    · exact .inr ⟨q, PySem.W.cellsFrom_some _ _ _ (.inl q)⟩
  refine codeAny_call_function room.depth (inn _ _ lk) rfl S.co S.gen rfl (PySem.W.codeRec_of inn hcd) (bind _ _ _ _ ?_)
  refine wpAny_newFunctionEnv_cells S.kind kinds fun en hen s1 entered => ?_
  subst hen
  refine ⟨lim.keeps entered.toInCall.keep, codeAny_func ?_⟩
  obtain ⟨t, der, rd⟩ := body outer s H vs Q E (room.deeper _) want
  have I0 : Inv (cxOf CX P w K mg base N qual (defScope st) f (.ref c) callerA outer s H E) [] (start N vs) H s1 := inv_start S room.hd env count rel entered
  refine wpAny_mono (der.nox.run [] s1 (start N vs) H _ I0 rd) (fun flow s' res => ?_) fun _ _ res => res
  cases flow with
  | ret u =>
    obtain ⟨v, σ', H', J, rv, q⟩ := res
    exact ⟨v, H', J.os, J.bare, J.base, J.hok, rv, q⟩
  | next =>
    obtain ⟨σ', H', J, q⟩ := res
    exact ⟨V.non, H', J.os, J.bare, J.base, J.hok, rfl, q⟩
  | brk =>
    obtain ⟨_, _, _, no⟩ := res
    exact no.elim
  | cont =>
    obtain ⟨_, _, _, no⟩ := res
    exact no.elim
end XK
end
section
set_option Elab.async false
set_option linter.all false
set_option maxRecDepth 100000
set_option maxHeartbeats 4100000
namespace XJ
open PySem PySem.W PyProof.Rows L2 XK
/-- the mro of a class that stands right upon ValueError -/
def mroOver (K : Frag) (C : Addr) : Bool := match clsIn K C with
  | some cd => cd.mro == [.ref C, .type "ValueError", .type "Exception", .type "BaseException", .type "object"] && cd.hasDict
  | none => false
theorem over_cls {K : Frag} {C : Addr} (h : mroOver K C = true) : ∃ cd, clsIn K C = some cd ∧ cd.mro = [.ref C, .type "ValueError", .type "Exception", .type "BaseException", .type "object"] ∧ cd.hasDict = true := by
  unfold mroOver at h
  split at h
  · rename_i cd e
    rw [Bool.and_eq_true] at h
    exact ⟨cd, e, eq_of_beq h.1, h.2⟩
  · cases h
/-- what the written part says of an own ValueError class -/
structure ErrF (K : Frag) (x : Str) (C : Addr) : Prop where
  ns : nsIn K mainGlobals x = some (some (.ref C))
  bare : mroOver K C = true
  ini : excInitIn K C [.type "ValueError", .type "Exception", .type "BaseException", .type "object"] "ValueError.__new__" = true
  sa : findIn K (.ref C) "__setattr__" = some (some (.builtin "object.__setattr__"))
  ga : findIn K (.ref C) "__getattribute__" = some (some (.builtin "BaseException.__getattribute__"))
  gg : findIn K (.ref C) "__getattr__" = some none
  exC : subIn K (.ref C) (.type "BaseException") = some true
  kC : keepIn K (.ref C) = true
  hd : hasDictIn K C = true
  ac : findIn K (.ref C) "__class__" = some (some (.builtin "object.__class__"))
  gn : specialIn K (.builtin "object.__class__") "__get__" = some (some (.builtin "getset_descriptor.__get__"))
  tk : takesIn K (.builtin "object.__class__") = some true
  mo : mroIn K C (.type "object") = some true
  ty : typeIn K (.ref C) = some (.type "type")
  xc : ∃ nm q N bs bm sn sub ab col dd k0 k1 k2 k3 k5, K.lookup C = some (excClassObj nm q C N bs bm true sn sub ab col dd k0 k1 k2 k3 k5 "ValueError.__new__") ∧ PySem.HandSPX.refsVE bm = true
theorem xc_mk {K : Frag} {C : Addr} {nm q N bs bm sn sub ab col dd k0 k1 k2 k3 k5} (a : K.lookup C = some (excClassObj nm q C N bs bm true sn sub ab col dd k0 k1 k2 k3 k5 "ValueError.__new__")) (b : PySem.HandSPX.refsVE bm = true) :
    ∃ nm q N bs bm sn sub ab col dd k0 k1 k2 k3 k5, K.lookup C = some (excClassObj nm q C N bs bm true sn sub ab col dd k0 k1 k2 k3 k5 "ValueError.__new__") ∧ PySem.HandSPX.refsVE bm = true := ⟨_, _, _, _, _, _, _, _, _, _, _, _, _, _, _, a, b⟩
theorem ErrF.xt {K : Frag} {x : Str} {C : Addr} (F : ErrF K x C) : XT K C := by
  have S := PySem.F.store_ValueError
  obtain ⟨cd, hc, hm, hd⟩ := over_cls F.bare
  refine ⟨⟨"ValueError", _, _, _, PySem.F.excBase_ValueError, F.ini⟩, ⟨cd, hc, ?_, ?_, fun self => ?_, hd⟩, F.sa, F.ga, F.gg, F.exC, F.kC, F.hd, F.ac, F.gn, F.tk, F.mo⟩
  · rw [hm]
    rfl
  · rw [hm, List.contains_cons, S.hasOwner, Bool.or_true]
  · rw [hm, refuseLoop_ref]
    exact S.passes self
theorem ErrF.oex {K : Frag} {x : Str} {C : Addr} (F : ErrF K x C) : OexC K C := ⟨F.xc, F.sa, F.exC, F.ty, F.kC⟩
/-! ### two defs whose code objects have tables of their own -/
/-- the tables of the code objects at c and at d are unlike, and neither is written down -/
def tabsApart (K : Frag) (c d : Addr) : Bool := match K.lookup c, K.lookup d with
  | some ⟨_, _, .fields vs, _⟩, some ⟨_, _, .fields us, _⟩ => match (vs[11]? : Option Value), (us[11]? : Option Value) with
    | some (Value.ref p), some (Value.ref r) => p != r && (K.lookup p).isNone && (K.lookup r).isNone
    | _, _ => false
  | _, _ => false
theorem apart {K : Frag} {c d : Addr} (h : tabsApart K c d = true) : ∃ e1 d1 vs s1 e2 d2 us s2 p r, K.lookup c = some ⟨e1, d1, .fields vs, s1⟩ ∧ K.lookup d = some ⟨e2, d2, .fields us, s2⟩ ∧ vs[11]? = some (.ref p) ∧ us[11]? = some (.ref r) ∧ p ≠ r ∧ K.lookup p = none ∧ K.lookup r = none := by
  unfold tabsApart at h
  split at h
  · rename_i e1 d1 vs s1 e2 d2 us s2 h1 h2
    split at h
    · rename_i p r h3 h4
      rw [Bool.and_eq_true, Bool.and_eq_true] at h
      obtain ⟨⟨a, b⟩, e⟩ := h
      exact ⟨_, _, _, _, _, _, _, _, _, _, h1, h2, h3, h4, by simpa using a, by simpa using b, by simpa using e⟩
    · cases h
  · cases h
/-- as the head tells it of each def -/
def TabAt (h : Heap) (mg : Str → Option Value) (x : Str) : Prop := ∃ a o fd c P, mg x = some (.ref a) ∧ h.get? a = some o ∧ o.data = .func fd ∧ fd.code = .ref c ∧ h.IsCode c P #[] ∧ h.TableAt c P #[]
theorem tab_one {K : Frag} {h : Heap} {mg : Str → Option Value} {x : Str} {f c p : Addr} {oc : Value} {od : Option Addr} {fd : FuncData} {osl : Array (Option Value)} {e1 : Value} {d1 : Option Addr} {vs : Array Value} {s1 : Array (Option Value)} (X : K.In h) (T : TabAt h mg x) (m : mg x = some (.ref f)) (l : K.lookup f = some ⟨oc, od, .func fd, osl⟩) (hc : fd.code = .ref c)
    (k : K.lookup c = some ⟨e1, d1, .fields vs, s1⟩) (v : vs[11]? = some (.ref p)) : h.get? p = some { cls := .none, data := .fields #[] } ∧ CodeHd h c p := by
  obtain ⟨a, o, fd', c', P, h1, h2, h3, h4, h5, h6⟩ := T
  rw [m] at h1
  cases h1
  have g1 := X _ _ l
  rw [g1] at h2
  cases h2
  cases h3
  rw [hc] at h4
  cases h4
  have hd := CodeHd.of h5 h6
  obtain ⟨⟨o2, v2, e1', _, e3, e4⟩, hP⟩ := h6
  have g2 := X _ _ k
  rw [g2] at e1'
  cases e1'
  cases e3
  rw [v] at e4
  cases e4
  exact ⟨hP, hd⟩
theorem caller_walkU {l : PySem.W.OpenLaw} {n k : Nat} {q : Program} {loose : List Str} {XP : (Str → Option Value) → Heap → Prop} {YP : World → Heap → Prop} {d : DefRec} {K : Params → PySem.W.Frag} {x : Str}
    (most : l.most = some n) (small : n ≤ sizeLine) (plain : d.params.defaults = []) (room : Room k callerA) (Y : ∀ (w : World) (h : Heap), YP w h → (K w.params).In h)
    (F : ∀ (w : World) (mg : Str → Option Value) (fa : Addr) (h : Heap), YP w h → (K w.params).In h → h.Ns mainGlobals mg → mg d.name = some (.ref fa) → (∀ y ∈ (recsOf q).map (·.name), TabAt h mg y) → CallerAtT l w (K w.params) k n x mg fa h) :
    PySem.W.WalkO q loose XP YP l.row.toRowW d [] (fun f vs => PySem.call f vs) := by
  refine Att.attach_callB most plain fun w s₀ s₁ mg mb fa o pm cd doc a vs ns G y ho hd hcd hmg obj inz many _ gens => ?_
  have inn := Y w _ y
  obtain ⟨fd, cs, sp, tabs, notK, codes, bind, want, run⟩ := F w mg fa _ y inn G.T.g hmg (fun z hz => by
    obtain ⟨e, he, rfl⟩ := List.mem_map.mp hz
    exact G.T.tab e he)
  exact caller_runsT inn G.T.g G.T.b G.T.builtins G.T.nolimit gens tabs notK codes G.T.bmain obj inz (Nat.le_trans many small) room run bind fun H hH seq => want H a ns many hH seq
end XJ
end
section
set_option Elab.async false
set_option linter.all false
set_option maxRecDepth 100000
set_option maxHeartbeats 8000000
namespace XJ
open PySem PySem.W L2 XK
/-- a def at an address, as the row tells it -/
structure FnF (K : Frag) (x qual : Str) (st : Stmt) (f : Addr) : Prop where
  ex : ∃ (oc : Value) (od : Option Addr) (kV doc pm : Value) (an : Option Addr) (cdv ct : Value) (osl : Array (Option Value)), K.lookup f = some ⟨oc, od, .func (fnOf x qual (defArgs st) (defBody st) (defScope st) .none kV doc pm an cdv ct), osl⟩ ∧ codeIn K cdv qual = true
theorem fnF_mk {K : Frag} {x qual : Str} {st : Stmt} {f : Addr} {oc : Value} {od : Option Addr} {kV doc pm : Value} {an : Option Addr} {cdv ct : Value} {osl : Array (Option Value)} (l : K.lookup f = some ⟨oc, od, .func (fnOf x qual (defArgs st) (defBody st) (defScope st) .none kV doc pm an cdv ct), osl⟩) (c : codeIn K cdv qual = true) : FnF K x qual st f :=
  ⟨⟨oc, od, kV, doc, pm, an, cdv, ct, osl, l, c⟩⟩
theorem FnF.get {K : Frag} {x qual : Str} {st : Stmt} {f : Addr} (F : FnF K x qual st f) (k : keepIn K (.ref f) = true) : ∃ fd, Fun K x qual st f fd := by
  obtain ⟨oc, od, kV, doc, pm, an, cdv, ct, osl, l, c⟩ := F.ex
  exact ⟨_, fun_mk l c k⟩
end XJ
namespace LA
open PySem PySem.W L2 XS XT XK XW
def n5 {α : Type} (a0 a1 a2 a3 a4 : α) : Nat → α
  | 0 => a0
  | 1 => a1
  | 2 => a2
  | 3 => a3
  | _ => a4
def n11 {α : Type} (a0 a1 a2 a3 a4 a5 a6 a7 a8 a9 a10 : α) : Nat → α
  | 0 => a0
  | 1 => a1
  | 2 => a2
  | 3 => a3
  | 4 => a4
  | 5 => a5
  | 6 => a6
  | 7 => a7
  | 8 => a8
  | 9 => a9
  | _ => a10
/-- nothing is booked of tokens whose sharing is not told -/
def isText : Value → Bool
  | .str _ _ => true
  | _ => false
def booked0 (K : Frag) : Bool := match K.lookup cStatics with
  | some ⟨_, _, .dict es _, _⟩ => es.toList.all (fun e => isText e.key) && (nsFind es sharingNotToldKey).isNone
  | _ => false
theorem booked_mk {K : Frag} {h : Heap} (X : K.In h) (b : booked0 K = true) : NoneBooked h := by
  unfold booked0 at b
  split at b
  · rename_i c d es ep sl e
    rw [Bool.and_eq_true] at b
    refine ⟨nsFind es, ⟨_, es, ep, X _ _ e, rfl, fun x hx => ?_, fun _ => rfl⟩, by simpa using b.2⟩
    have t := List.all_eq_true.mp b.1 x (by simpa using hx)
    cases hk : x.key with
    | str n t => exact ⟨n, t, rfl⟩
    | _ => rw [hk] at t; cases t
  · cases b
theorem all_mk {l : PySem.W.OpenLaw} {w : World} {K : Frag} {h : Heap} {mg : Str → Option Value} {fa a_pen a_draw a_pick a_sgn a_few a_row a_deed a_mkd a_jn a_law a_shf a_old a_jds a_jm a_pl a_da a_le a_li a_wo a_sh a_di a_cw a_cp C0 I0 D0 C1 I1 D1 C2 I2 D2 C3 I3 D3 C4 I4 D4 P0 P1 E EI : Addr} {t0 t1 t2 t3 : Tok} (X : K.In h) (G : h.Ns mainGlobals mg) (hfa : mg "law" = some (.ref fa))
    (g_pen : nsIn K mainGlobals "_law_pen" = some (some (.ref a_pen)))
    (f_pen : XJ.FnF K "_law_pen" "_law_pen" sPen a_pen)
    (k_pen : keepIn K (.ref a_pen) = true)
    (g_draw : nsIn K mainGlobals "_law_draw" = some (some (.ref a_draw)))
    (f_draw : XJ.FnF K "_law_draw" "_law_draw" sDraw a_draw)
    (k_draw : keepIn K (.ref a_draw) = true)
    (g_pick : nsIn K mainGlobals "_law_pick" = some (some (.ref a_pick)))
    (f_pick : XJ.FnF K "_law_pick" "_law_pick" sPick a_pick)
    (k_pick : keepIn K (.ref a_pick) = true)
    (g_sgn : nsIn K mainGlobals "_law_signs" = some (some (.ref a_sgn)))
    (f_sgn : XJ.FnF K "_law_signs" "_law_signs" sSigns a_sgn)
    (k_sgn : keepIn K (.ref a_sgn) = true)
    (g_few : nsIn K mainGlobals "_law_few" = some (some (.ref a_few)))
    (f_few : XJ.FnF K "_law_few" "_law_few" sFew a_few)
    (k_few : keepIn K (.ref a_few) = true)
    (g_row : nsIn K mainGlobals "_law_row" = some (some (.ref a_row)))
    (f_row : XJ.FnF K "_law_row" "_law_row" sRow a_row)
    (k_row : keepIn K (.ref a_row) = true)
    (g_deed : nsIn K mainGlobals "_law_deed" = some (some (.ref a_deed)))
    (f_deed : XJ.FnF K "_law_deed" "_law_deed" sDeed a_deed)
    (k_deed : keepIn K (.ref a_deed) = true)
    (g_mkd : nsIn K mainGlobals "_law_made_deed" = some (some (.ref a_mkd)))
    (f_mkd : XJ.FnF K "_law_made_deed" "_law_made_deed" sMDeed a_mkd)
    (k_mkd : keepIn K (.ref a_mkd) = true)
    (g_jn : nsIn K mainGlobals "_law_jline" = some (some (.ref a_jn)))
    (f_jn : XJ.FnF K "_law_jline" "_law_jline" sJline a_jn)
    (k_jn : keepIn K (.ref a_jn) = true)
    (g_law : nsIn K mainGlobals "law" = some (some (.ref a_law)))
    (f_law : XJ.FnF K "law" "law" sLaw a_law)
    (k_law : keepIn K (.ref a_law) = true)
    (g_shf : nsIn K mainGlobals "_law_shuffled" = some (some (.ref a_shf)))
    (f_shf : XJ.FnF K "_law_shuffled" "_law_shuffled" sShf a_shf)
    (k_shf : keepIn K (.ref a_shf) = true)
    (g_old : nsIn K mainGlobals "_law_olds_right" = some (some (.ref a_old)))
    (f_old : XJ.FnF K "_law_olds_right" "_law_olds_right" sOr a_old)
    (k_old : keepIn K (.ref a_old) = true)
    (g_jds : nsIn K mainGlobals "_law_jdeeds" = some (some (.ref a_jds)))
    (f_jds : XJ.FnF K "_law_jdeeds" "_law_jdeeds" sJds a_jds)
    (k_jds : keepIn K (.ref a_jds) = true)
    (g_jm : nsIn K mainGlobals "_law_jmade_deeds" = some (some (.ref a_jm)))
    (f_jm : XJ.FnF K "_law_jmade_deeds" "_law_jmade_deeds" sJm a_jm)
    (k_jm : keepIn K (.ref a_jm) = true)
    (g_pl : nsIn K mainGlobals "places" = some (some (.ref a_pl)))
    (f_pl : XJ.FnF K "places" "places" sPlaces a_pl)
    (k_pl : keepIn K (.ref a_pl) = true)
    (g_da : nsIn K mainGlobals "done_all" = some (some (.ref a_da)))
    (f_da : XJ.FnF K "done_all" "done_all" sDAll a_da)
    (k_da : keepIn K (.ref a_da) = true)
    (g_le : nsIn K mainGlobals "is_letter" = some (some (.ref a_le)))
    (f_le : XJ.FnF K "is_letter" "is_letter" sLetter a_le)
    (k_le : keepIn K (.ref a_le) = true)
    (g_li : nsIn K mainGlobals "is_line" = some (some (.ref a_li)))
    (f_li : XJ.FnF K "is_line" "is_line" sLine a_li)
    (k_li : keepIn K (.ref a_li) = true)
    (g_wo : nsIn K mainGlobals "is_word" = some (some (.ref a_wo)))
    (f_wo : XJ.FnF K "is_word" "is_word" sWord a_wo)
    (k_wo : keepIn K (.ref a_wo) = true)
    (g_sh : nsIn K mainGlobals "is_short_word" = some (some (.ref a_sh)))
    (f_sh : XJ.FnF K "is_short_word" "is_short_word" sShort a_sh)
    (k_sh : keepIn K (.ref a_sh) = true)
    (g_di : nsIn K mainGlobals "are_different" = some (some (.ref a_di)))
    (f_di : XJ.FnF K "are_different" "are_different" sDiff a_di)
    (k_di : keepIn K (.ref a_di) = true)
    (g_cw : nsIn K mainGlobals "check_word" = some (some (.ref a_cw)))
    (f_cw : XJ.FnF K "check_word" "check_word" sChkW a_cw)
    (k_cw : keepIn K (.ref a_cw) = true)
    (g_cp : nsIn K mainGlobals "check_pair" = some (some (.ref a_cp)))
    (f_cp : XJ.FnF K "check_pair" "check_pair" sChkP a_cp)
    (k_cp : keepIn K (.ref a_cp) = true)
    (gc0 : nsIn K mainGlobals "First" = some (some (.ref C0)))
    (cl0 : Cls K C0)
    (mk0 : Mk K C0 I0)
    (fi0 : XJ.FnF K "__init__" "First.__init__" sIFirst I0)
    (ki0 : keepIn K (.ref I0) = true)
    (no00 : NoAttr K C0 "_old")
    (no01 : NoAttr K C0 "_new")
    (mD0 : Meth K C0 "done" D0)
    (fD0 : XJ.FnF K "done" "First.done" sDFirst D0)
    (mP0 : Meth K C0 "has_place" P0)
    (fP0 : XJ.FnF K "has_place" "First.has_place" sPFirst P0)
    (gc1 : nsIn K mainGlobals "Every" = some (some (.ref C1)))
    (cl1 : Cls K C1)
    (mk1 : Mk K C1 I1)
    (fi1 : XJ.FnF K "__init__" "Every.__init__" sIEvery I1)
    (ki1 : keepIn K (.ref I1) = true)
    (no10 : NoAttr K C1 "_old")
    (no11 : NoAttr K C1 "_new")
    (mD1 : Meth K C1 "done" D1)
    (fD1 : XJ.FnF K "done" "Every.done" sDEvery D1)
    (mP1 : Meth K C1 "has_place" P1)
    (fP1 : XJ.FnF K "has_place" "Every.has_place" sPEvery P1)
    (gc2 : nsIn K mainGlobals "Swap" = some (some (.ref C2)))
    (cl2 : Cls K C2)
    (mk2 : Mk K C2 I2)
    (fi2 : XJ.FnF K "__init__" "Swap.__init__" sISwap I2)
    (ki2 : keepIn K (.ref I2) = true)
    (no20 : NoAttr K C2 "_letters")
    (no21 : NoAttr K C2 "_others")
    (mD2 : Meth K C2 "done" D2)
    (fD2 : XJ.FnF K "done" "Swap.done" sDSwap D2)
    (gc3 : nsIn K mainGlobals "Front" = some (some (.ref C3)))
    (cl3 : Cls K C3)
    (mk3 : Mk K C3 I3)
    (fi3 : XJ.FnF K "__init__" "Front.__init__" sIFront I3)
    (ki3 : keepIn K (.ref I3) = true)
    (no30 : NoAttr K C3 "_word")
    (mD3 : Meth K C3 "done" D3)
    (fD3 : XJ.FnF K "done" "Front.done" sDFront D3)
    (gc4 : nsIn K mainGlobals "Behind" = some (some (.ref C4)))
    (cl4 : Cls K C4)
    (mk4 : Mk K C4 I4)
    (fi4 : XJ.FnF K "__init__" "Behind.__init__" sIBehind I4)
    (ki4 : keepIn K (.ref I4) = true)
    (no40 : NoAttr K C4 "_word")
    (mD4 : Meth K C4 "done" D4)
    (fD4 : XJ.FnF K "done" "Behind.done" sDBehind D4)
    (er : XJ.ErrF K "InvalidChange" E)
    (er_no : findIn K (.ref E) "argument" = some none)
    (er_i : findIn K (.ref E) "__init__" = some (some (.ref EI)))
    (er_ty : typeIn K (.ref EI) = some (.type "function"))
    (er_f : XJ.FnF K "__init__" "InvalidChange.__init__" sXI EI)
    (er_k : keepIn K (.ref EI) = true)
    (bk : booked0 K = true)
    (z_len : nsIn K mainGlobals "len" = some none)
    (z_int : nsIn K mainGlobals "int" = some none)
    (z_list : nsIn K mainGlobals "list" = some none)
    (z_abs : nsIn K mainGlobals "abs" = some none)
    (z_range : nsIn K mainGlobals "range" = some none)
    (z_set : nsIn K mainGlobals "set" = some none)
    (z_all : nsIn K mainGlobals "all" = some none)
    (z_ord : nsIn K mainGlobals "ord" = some none)
    (z_isinstance : nsIn K mainGlobals "isinstance" = some none)
    (z_str : nsIn K mainGlobals "str" = some none)
    (z_dict : nsIn K mainGlobals "dict" = some none)
    (z_zip : nsIn K mainGlobals "zip" = some none)
    (z_tuple : nsIn K mainGlobals "tuple" = some none)
    (y0 : nsIn K mainGlobals "FIRST_LETTER" = some (some (.int 32 t0)))
    (y1 : nsIn K mainGlobals "LAST_LETTER" = some (some (.int 126 t1)))
    (y2 : nsIn K mainGlobals "PERCENT_SIGN" = some (some (.int 37 t2)))
    (y3 : nsIn K mainGlobals "MAX_WORD" = some (some (.int 8 t3))) :
    ∃ fd : FuncData, (∀ (s : Shared) (v : Value), BindsTo s fd ⟨[v], []⟩ [("_law_script", v)]) ∧ ∀ base : Heap, K.In base → base.Ns mainGlobals mg → AtCaller l.prog w K mg base CX0 20 fa fd ["_law_script"] (spLaw K) := by
  have e := hfa.symm.trans (mg_of X G g_law)
  cases e
  obtain ⟨d_pen, F_pen⟩ := f_pen.get k_pen
  have b_pen := F_pen.binds (ps := ["_law_script"]) fun _ _ _ _ _ _ us hl => match us, hl with | [_], _ => rfl
  obtain ⟨d_draw, F_draw⟩ := f_draw.get k_draw
  have b_draw := F_draw.binds (ps := ["_law_pen_here", "_law_span"]) fun _ _ _ _ _ _ us hl => match us, hl with | [_, _], _ => rfl
  obtain ⟨d_pick, F_pick⟩ := f_pick.get k_pick
  have b_pick := F_pick.binds (ps := ["_law_pen_here", "_law_options"]) fun _ _ _ _ _ _ us hl => match us, hl with | [_, _], _ => rfl
  obtain ⟨d_sgn, F_sgn⟩ := f_sgn.get k_sgn
  have b_sgn := F_sgn.binds (ps := ([] : List Str)) fun _ _ _ _ _ _ us hl => match us, hl with | [], _ => rfl
  obtain ⟨d_few, F_few⟩ := f_few.get k_few
  have b_few := F_few.binds (ps := ["_law_pen_here"]) fun _ _ _ _ _ _ us hl => match us, hl with | [_], _ => rfl
  obtain ⟨d_row, F_row⟩ := f_row.get k_row
  have b_row := F_row.binds (ps := ["_law_pen_here", "_law_signs_here", "_law_least", "_law_most_letters"]) fun _ _ _ _ _ _ us hl => match us, hl with | [_, _, _, _], _ => rfl
  obtain ⟨d_deed, F_deed⟩ := f_deed.get k_deed
  have b_deed := F_deed.binds (ps := ["_law_pen_here", "_law_signs_here", "_law_wide"]) fun _ _ _ _ _ _ us hl => match us, hl with | [_, _, _], _ => rfl
  obtain ⟨d_mkd, F_mkd⟩ := f_mkd.get k_mkd
  have b_mkd := F_mkd.binds (ps := ["_law_deed_here"]) fun _ _ _ _ _ _ us hl => match us, hl with | [_], _ => rfl
  obtain ⟨d_jn, F_jn⟩ := f_jn.get k_jn
  have b_jn := F_jn.binds (ps := ["_law_pen_here", "_law_words", "_law_signs_here", "_law_most_letters"]) fun _ _ _ _ _ _ us hl => match us, hl with | [_, _, _, _], _ => rfl
  obtain ⟨d_law, F_law⟩ := f_law.get k_law
  obtain ⟨d_shf, F_shf⟩ := f_shf.get k_shf
  have b_shf := F_shf.binds (ps := ["_law_pen_here", "_law_items"]) fun _ _ _ _ _ _ us hl => match us, hl with | [_, _], _ => rfl
  obtain ⟨d_old, F_old⟩ := f_old.get k_old
  have b_old := F_old.binds (ps := ["_law_was", "_law_fresh", "_law_row_here"]) fun _ _ _ _ _ _ us hl => match us, hl with | [_, _, _], _ => rfl
  obtain ⟨d_jds, F_jds⟩ := f_jds.get k_jds
  have b_jds := F_jds.binds (ps := ["_law_pen_here", "_law_signs_here", "_law_most_deeds", "_law_wide"]) fun _ _ _ _ _ _ us hl => match us, hl with | [_, _, _, _], _ => rfl
  obtain ⟨d_jm, F_jm⟩ := f_jm.get k_jm
  have b_jm := F_jm.binds (ps := ["_law_deeds"]) fun _ _ _ _ _ _ us hl => match us, hl with | [_], _ => rfl
  obtain ⟨d_pl, F_pl⟩ := f_pl.get k_pl
  have b_pl := F_pl.binds (ps := ["line", "word"]) fun _ _ _ _ _ _ us hl => match us, hl with | [_, _], _ => rfl
  obtain ⟨d_da, F_da⟩ := f_da.get k_da
  have b_da := F_da.binds (ps := ["changes", "line"]) fun _ _ _ _ _ _ us hl => match us, hl with | [_, _], _ => rfl
  obtain ⟨d_le, F_le⟩ := f_le.get k_le
  have b_le := F_le.binds (ps := ["character"]) fun _ _ _ _ _ _ us hl => match us, hl with | [_], _ => rfl
  obtain ⟨d_li, F_li⟩ := f_li.get k_li
  have b_li := F_li.binds (ps := ["value"]) fun _ _ _ _ _ _ us hl => match us, hl with | [_], _ => rfl
  obtain ⟨d_wo, F_wo⟩ := f_wo.get k_wo
  have b_wo := F_wo.binds (ps := ["value"]) fun _ _ _ _ _ _ us hl => match us, hl with | [_], _ => rfl
  obtain ⟨d_sh, F_sh⟩ := f_sh.get k_sh
  have b_sh := F_sh.binds (ps := ["value"]) fun _ _ _ _ _ _ us hl => match us, hl with | [_], _ => rfl
  obtain ⟨d_di, F_di⟩ := f_di.get k_di
  have b_di := F_di.binds (ps := ["line"]) fun _ _ _ _ _ _ us hl => match us, hl with | [_], _ => rfl
  obtain ⟨d_cw, F_cw⟩ := f_cw.get k_cw
  have b_cw := F_cw.binds (ps := ["word"]) fun _ _ _ _ _ _ us hl => match us, hl with | [_], _ => rfl
  obtain ⟨d_cp, F_cp⟩ := f_cp.get k_cp
  have b_cp := F_cp.binds (ps := ["old", "new"]) fun _ _ _ _ _ _ us hl => match us, hl with | [_, _], _ => rfl
  have bs_sgn : ∀ s, BindsTo s d_sgn ⟨[], []⟩ [] := by
    obtain ⟨oc, od, kV, doc, pm, an, cdv, ct, osl, rfl, _, _⟩ := F_sgn.ex
    exact fun s => .of_eq rfl
  obtain ⟨di0, FI0⟩ := fi0.get ki0
  have bi0 := FI0.binds (ps := ["self", "old", "new"]) fun _ _ _ _ _ _ us hl => match us, hl with | [_, _, _], _ => rfl
  obtain ⟨dD0, Fdd0⟩ := fD0.get mD0.kp
  have bD0 := Fdd0.binds (ps := ["self", "line"]) fun _ _ _ _ _ _ us hl => match us, hl with | [_, _], _ => rfl
  obtain ⟨dP0, Fpp0⟩ := fP0.get mP0.kp
  have bP0 := Fpp0.binds (ps := ["self", "line"]) fun _ _ _ _ _ _ us hl => match us, hl with | [_, _], _ => rfl
  obtain ⟨di1, FI1⟩ := fi1.get ki1
  have bi1 := FI1.binds (ps := ["self", "old", "new"]) fun _ _ _ _ _ _ us hl => match us, hl with | [_, _, _], _ => rfl
  obtain ⟨dD1, Fdd1⟩ := fD1.get mD1.kp
  have bD1 := Fdd1.binds (ps := ["self", "line"]) fun _ _ _ _ _ _ us hl => match us, hl with | [_, _], _ => rfl
  obtain ⟨dP1, Fpp1⟩ := fP1.get mP1.kp
  have bP1 := Fpp1.binds (ps := ["self", "line"]) fun _ _ _ _ _ _ us hl => match us, hl with | [_, _], _ => rfl
  obtain ⟨di2, FI2⟩ := fi2.get ki2
  have bi2 := FI2.binds (ps := ["self", "letters", "others"]) fun _ _ _ _ _ _ us hl => match us, hl with | [_, _, _], _ => rfl
  obtain ⟨dD2, Fdd2⟩ := fD2.get mD2.kp
  have bD2 := Fdd2.binds (ps := ["self", "line"]) fun _ _ _ _ _ _ us hl => match us, hl with | [_, _], _ => rfl
  obtain ⟨di3, FI3⟩ := fi3.get ki3
  have bi3 := FI3.binds (ps := ["self", "word"]) fun _ _ _ _ _ _ us hl => match us, hl with | [_, _], _ => rfl
  obtain ⟨dD3, Fdd3⟩ := fD3.get mD3.kp
  have bD3 := Fdd3.binds (ps := ["self", "line"]) fun _ _ _ _ _ _ us hl => match us, hl with | [_, _], _ => rfl
  obtain ⟨di4, FI4⟩ := fi4.get ki4
  have bi4 := FI4.binds (ps := ["self", "word"]) fun _ _ _ _ _ _ us hl => match us, hl with | [_, _], _ => rfl
  obtain ⟨dD4, Fdd4⟩ := fD4.get mD4.kp
  have bD4 := Fdd4.binds (ps := ["self", "line"]) fun _ _ _ _ _ _ us hl => match us, hl with | [_, _], _ => rfl
  obtain ⟨dX, FX⟩ := er_f.get er_k
  have bX := FX.binds (ps := ["self", "argument"]) fun _ _ _ _ _ _ us hl => match us, hl with | [_, _], _ => rfl
  refine ⟨d_law, ?_, fun base XB GB => ?_⟩
  · obtain ⟨oc, od, kV, doc, pm, an, cdv, ct, osl, rfl, _, _⟩ := F_law.ex
    exact fun s v => .of_eq rfl
  have nb := booked_mk XB bk
  have L0 : PkT mg t0 t1 t2 t3 := ⟨mg_none_of X G z_len, mg_none_of X G z_set, mg_none_of X G z_all, mg_none_of X G z_ord, mg_none_of X G z_isinstance, mg_none_of X G z_str, mg_of X G y0, mg_of X G y1, mg_of X G y2, mg_of X G y3⟩
  have T0 : Txt mg := ⟨mg_none_of X G z_len, mg_none_of X G z_int, mg_none_of X G z_list, mg_none_of X G z_abs⟩
  have mR := mg_none_of X G z_range
  have N0 : NamT mg (n5 C0 C1 C2 C3 C4) := ⟨mg_of X G gc0, mg_of X G gc1, mg_of X G gc2, mg_of X G gc3, mg_of X G gc4⟩
  have o_draw := ok_draw (P := l.prog) (w := w) (base := base) F_draw T0
  have cD : DrawAt l.prog w K mg base a_draw d_draw := ⟨o_draw, mg_of X G g_draw, k_draw, b_draw⟩
  have cP : PickAt l.prog w K mg base a_pick d_pick := ⟨ok_pick F_pick T0 o_draw (mg_of X G g_draw) k_draw b_draw, mg_of X G g_pick, k_pick, b_pick⟩
  have cPW : CallW l.prog w K mg base 2 "_law_pick" ["_law_pen_here", "_law_options"] spPickW a_pick d_pick := ⟨ok_pickW F_pick T0 o_draw (mg_of X G g_draw) k_draw b_draw, mg_of X G g_pick, k_pick, b_pick⟩
  have c_pen : CallOf l.prog w K mg base 1 "_law_pen" ["_law_script"] (spPen K) a_pen d_pen := ⟨ok_pen F_pen T0, mg_of X G g_pen, k_pen, b_pen⟩
  have c_few : CallOf l.prog w K mg base 3 "_law_few" ["_law_pen_here"] spFew a_few d_few := ⟨ok_few F_few T0 mR cP F_sgn bs_sgn (mg_of X G g_sgn), mg_of X G g_few, k_few, b_few⟩
  have c_row : CallOf l.prog w K mg base 3 "_law_row" ["_law_pen_here", "_law_signs_here", "_law_least", "_law_most_letters"] (spRow) a_row d_row := ⟨ok_row F_row T0 mR cP o_draw (mg_of X G g_draw) k_draw b_draw, mg_of X G g_row, k_row, b_row⟩
  have c_rowW : CallW l.prog w K mg base 3 "_law_row" ["_law_pen_here", "_law_signs_here", "_law_least", "_law_most_letters"] spRowW a_row d_row := ⟨ok_rowW F_row T0 mR cPW o_draw (mg_of X G g_draw) k_draw b_draw, mg_of X G g_row, k_row, b_row⟩
  have c_deed : CallOf l.prog w K mg base 4 "_law_deed" ["_law_pen_here", "_law_signs_here", "_law_wide"] spDeedB a_deed d_deed := ⟨deedB (ok_deedW F_deed cP c_row c_rowW), mg_of X G g_deed, k_deed, b_deed⟩
  have c_le : CallOf l.prog w K mg base 1 "is_letter" ["character"] (spLetter) a_le d_le := ⟨ok_letter F_le L0, mg_of X G g_le, k_le, b_le⟩
  have c_li : CallOf l.prog w K mg base 2 "is_line" ["value"] (spLine K) a_li d_li := ⟨ok_line F_li L0 c_le, mg_of X G g_li, k_li, b_li⟩
  have c_liA : CallOf l.prog w K mg base 2 "is_line" ["value"] (spAny1 K lineB) a_li d_li := ⟨ask_any (b := lineB) c_li.ok, mg_of X G g_li, k_li, b_li⟩
  have c_wo : CallOf l.prog w K mg base 3 "is_word" ["value"] (spAsk K wordB) a_wo d_wo := ⟨ok_word F_wo c_li, mg_of X G g_wo, k_wo, b_wo⟩
  have c_woA : CallOf l.prog w K mg base 3 "is_word" ["value"] (spAny1 K wordB) a_wo d_wo := ⟨ask_any c_wo.ok, mg_of X G g_wo, k_wo, b_wo⟩
  have c_sh : CallOf l.prog w K mg base 4 "is_short_word" ["value"] (spAsk K shortB) a_sh d_sh := ⟨ok_short F_sh L0 c_wo, mg_of X G g_sh, k_sh, b_sh⟩
  have c_shA : CallOf l.prog w K mg base 4 "is_short_word" ["value"] (spAny1 K shortB) a_sh d_sh := ⟨ask_any c_sh.ok, mg_of X G g_sh, k_sh, b_sh⟩
  have c_di : CallOf l.prog w K mg base 1 "are_different" ["line"] (spDiffT) a_di d_di := ⟨ok_diff F_di L0, mg_of X G g_di, k_di, b_di⟩
  have EA : ErrAt l.prog w K mg base E EI dX := ⟨er.oex, er_no, er_i, er_ty, ok_XI FX, bX, mg_of X G er.ns⟩
  have c_cw : CallX l.prog w K mg base 5 "check_word" ["word"] (spChkW K E) a_cw d_cw := ⟨ok_chkW F_cw EA c_shA, mg_of X G g_cw, k_cw, b_cw⟩
  have c_cp : CallX l.prog w K mg base 5 "check_pair" ["old", "new"] (spChkP E) a_cp d_cp := ⟨ok_chkP F_cp L0 EA c_shA c_liA, mg_of X G g_cp, k_cp, b_cp⟩
  have MC : MakC l.prog w K mg base (n5 C0 C1 C2 C3 C4) E (n5 I0 I1 I2 I3 I4) (n5 di0 di1 di2 di3 di4) := ⟨⟨mk0, ok_IFirstW FI0 ⟨cl0, no00, no01⟩ c_cp, bi0⟩, ⟨mk1, ok_IEveryW FI1 ⟨cl1, no10, no11⟩ c_cp, bi1⟩, ⟨mk2, ok_ISwap FI2 ⟨cl2, no20, no21⟩ L0 EA c_woA c_di c_liA, bi2⟩, ⟨mk3, ok_IFront FI3 ⟨cl3, no30⟩ c_cw, bi3⟩, ⟨mk4, ok_IBehind FI4 ⟨cl4, no40⟩ c_cw, bi4⟩⟩
  have c_mkd : CallOf l.prog w K mg base 8 "_law_made_deed" ["_law_deed_here"] (spMD (n5 C0 C1 C2 C3 C4)) a_mkd d_mkd := ⟨ok_MD F_mkd N0 MC, mg_of X G g_mkd, k_mkd, b_mkd⟩
  have c_jn : CallOf l.prog w K mg base 4 "_law_jline" ["_law_pen_here", "_law_words", "_law_signs_here", "_law_most_letters"] spJline a_jn d_jn := ⟨ok_jline F_jn T0 mR cD cP c_row, mg_of X G g_jn, k_jn, b_jn⟩
  have e0 : FnOk l.prog w K mg base CX0 1 D0 dD0 ["self", "line"] (spDone (n5 C0 C1 C2 C3 C4) 0) := ok_DFirst Fdd0 nb ⟨cl0, no00, no01⟩
  have e1 : FnOk l.prog w K mg base CX0 1 D1 dD1 ["self", "line"] (spDone (n5 C0 C1 C2 C3 C4) 1) := ok_DEvery Fdd1 nb ⟨cl1, no10, no11⟩
  have e2 : FnOk l.prog w K mg base CX0 1 D2 dD2 ["self", "line"] (spDone (n5 C0 C1 C2 C3 C4) 2) := ok_DSwap Fdd2 (mg_none_of X G z_dict) (mg_none_of X G z_zip) ⟨cl2, no20, no21⟩
  have e3 : FnOk l.prog w K mg base CX0 1 D3 dD3 ["self", "line"] (spDone (n5 C0 C1 C2 C3 C4) 3) := ok_DFront Fdd3 ⟨cl3, no30⟩
  have e4 : FnOk l.prog w K mg base CX0 1 D4 dD4 ["self", "line"] (spDone (n5 C0 C1 C2 C3 C4) 4) := ok_DBehind Fdd4 ⟨cl4, no40⟩
  have Z : ChD l.prog w K mg base (n5 C0 C1 C2 C3 C4) (n5 D0 D1 D2 D3 D4) (n5 dD0 dD1 dD2 dD3 dD4) :=
    ⟨fun i hi => match i, hi with | 0, _ => cl0 | 1, _ => cl1 | 2, _ => cl2 | 3, _ => cl3 | 4, _ => cl4 | (n + 5), h => absurd h (by omega),
     fun i => match i with | ⟨0, _⟩ => ⟨mD0, e0, bD0⟩ | ⟨1, _⟩ => ⟨mD1, e1, bD1⟩ | ⟨2, _⟩ => ⟨mD2, e2, bD2⟩ | ⟨3, _⟩ => ⟨mD3, e3, bD3⟩ | ⟨4, _⟩ => ⟨mD4, e4, bD4⟩⟩
  have c_jds : CallOf l.prog w K mg base 5 "_law_jdeeds" ["_law_pen_here", "_law_signs_here", "_law_most_deeds", "_law_wide"] spJds a_jds d_jds := ⟨ok_Jds F_jds mR cD c_deed, mg_of X G g_jds, k_jds, b_jds⟩
  have c_jm : CallOf l.prog w K mg base 9 "_law_jmade_deeds" ["_law_deeds"] (spJm (n5 C0 C1 C2 C3 C4)) a_jm d_jm := ⟨ok_Jm F_jm c_mkd, mg_of X G g_jm, k_jm, b_jm⟩
  have c_pl : CallOf l.prog w K mg base 1 "places" ["line", "word"] spPl a_pl d_pl := ⟨ok_places F_pl (mg_none_of X G z_len) mR, mg_of X G g_pl, k_pl, b_pl⟩
  have c_dl : CallOf l.prog w K mg base 2 "done_all" ["changes", "line"] (spDAll K (n5 C0 C1 C2 C3 C4) true) a_da d_da := ⟨ok_DAll true F_da Z, mg_of X G g_da, k_da, b_da⟩
  have c_dt : CallOf l.prog w K mg base 2 "done_all" ["changes", "line"] (spDAll K (n5 C0 C1 C2 C3 C4) false) a_da d_da := ⟨ok_DAll false F_da Z, mg_of X G g_da, k_da, b_da⟩
  have p0 : FnOk l.prog w K mg base CX0 1 P0 dP0 ["self", "line"] (spPlace (n5 C0 C1 C2 C3 C4) 0) := ok_PFirst Fpp0 ⟨cl0, no00, no01⟩
  have p1 : FnOk l.prog w K mg base CX0 1 P1 dP1 ["self", "line"] (spPlace (n5 C0 C1 C2 C3 C4) 1) := ok_PEvery Fpp1 ⟨cl1, no10, no11⟩
  have O : OldT l.prog w K mg base (n5 C0 C1 C2 C3 C4) E (n5 I0 I1 I2 I3 I4) (n5 D0 D1 D2 D3 D4) (n5 P0 P1 P1 P1 P1) (n5 di0 di1 di2 di3 di4) (n5 dD0 dD1 dD2 dD3 dD4) (n5 dP0 dP1 dP1 dP1 dP1) := ⟨N0, MC, Z, ⟨mP0, p0, bP0⟩, ⟨mP1, p1, bP1⟩⟩
  have c_shf : CallOf l.prog w K mg base 2 "_law_shuffled" ["_law_pen_here", "_law_items"] spShf a_shf d_shf := ⟨ok_Shf F_shf (mg_none_of X G z_list) (mg_none_of X G z_len) cD, mg_of X G g_shf, k_shf, b_shf⟩
  have c_sgn : CallOf l.prog w K mg base 1 "_law_signs" [] spLit a_sgn d_sgn := ⟨ok_signs F_sgn, mg_of X G g_sgn, k_sgn, b_sgn⟩
  have c_drw : CallOf l.prog w K mg base 1 "_law_draw" ["_law_pen_here", "_law_span"] spDraw a_draw d_draw := ⟨o_draw, mg_of X G g_draw, k_draw, b_draw⟩
  have c_old : CallW l.prog w K mg base 8 "_law_olds_right" ["_law_was", "_law_fresh", "_law_row_here"] spOr a_old d_old := ⟨ok_Or F_old O (mg_none_of X G z_len) c_pl, mg_of X G g_old, k_old, b_old⟩
  have M : LawC l.prog w K mg base (n5 C0 C1 C2 C3 C4) (n11 a_pen a_few a_row a_shf a_sgn a_draw a_jds a_jm a_jn a_old a_da) (n11 d_pen d_few d_row d_shf d_sgn d_draw d_jds d_jm d_jn d_old d_da) := ⟨c_pen, c_few, c_rowW, c_shf, c_sgn, c_drw, c_jds, c_jm, c_jn, c_old, c_dl, c_dt⟩
  exact ok_law F_law ⟨mR, mg_none_of X G z_list, mg_none_of X G z_len, mg_none_of X G z_tuple⟩ M O
end LA
end
section
open PySem PySem.W PyProof.Rows
set_option Elab.async false
set_option maxRecDepth 100000
set_option maxHeartbeats 0
open_top LA05head for PySem.Challenge.rw_linestream_k05_whole_changes_by_rules
end
section
set_option Elab.async false
set_option linter.all false
open PySem PySem.W PyProof.Rows
set_option maxRecDepth 100000 in
set_option maxHeartbeats 0 in
theorem PySem.Challenge.cw_linestream_k05_whole_changes_by_rules_holds : PySem.Challenge.rw_linestream_k05_whole_changes_by_rules.Holds :=
  LA05head (by
    k_fill
    refine XK.caller_walk (l := PySem.Challenge.rw_linestream_k05_whole_changes_by_rules) (n := 63) (k := 20) (x := "_law_script") (sp := fun w => LA.spLaw _) rfl (by decide) rfl ⟨rfl, by decide, by decide⟩ (fun w h Y => PySem.W.kIn_of Y) ?F (fun w H a ns hl hS => ⟨a, ns, rfl, hS, hl, fun _ => rfl⟩)
    case F =>
      intro w mg fa h KX G hmg0
      have hmg : mg "law" = some (.ref fa) := hmg0
      clear hmg0
      refine' LA.all_mk KX G hmg ?h_g_pen ?h_f_pen ?h_k_pen ?h_g_draw ?h_f_draw ?h_k_draw ?h_g_pick ?h_f_pick ?h_k_pick ?h_g_sgn ?h_f_sgn ?h_k_sgn ?h_g_few ?h_f_few ?h_k_few ?h_g_row ?h_f_row ?h_k_row ?h_g_deed ?h_f_deed ?h_k_deed ?h_g_mkd ?h_f_mkd ?h_k_mkd ?h_g_jn ?h_f_jn ?h_k_jn ?h_g_law ?h_f_law ?h_k_law ?h_g_shf ?h_f_shf ?h_k_shf ?h_g_old ?h_f_old ?h_k_old ?h_g_jds ?h_f_jds ?h_k_jds ?h_g_jm ?h_f_jm ?h_k_jm ?h_g_pl ?h_f_pl ?h_k_pl ?h_g_da ?h_f_da ?h_k_da ?h_g_le ?h_f_le ?h_k_le ?h_g_li ?h_f_li ?h_k_li ?h_g_wo ?h_f_wo ?h_k_wo ?h_g_sh ?h_f_sh ?h_k_sh ?h_g_di ?h_f_di ?h_k_di ?h_g_cw ?h_f_cw ?h_k_cw ?h_g_cp ?h_f_cp ?h_k_cp ?h_gc0 ?h_cl0 ?h_mk0 ?h_fi0 ?h_ki0 ?h_no00 ?h_no01 ?h_mD0 ?h_fD0 ?h_mP0 ?h_fP0 ?h_gc1 ?h_cl1 ?h_mk1 ?h_fi1 ?h_ki1 ?h_no10 ?h_no11 ?h_mD1 ?h_fD1 ?h_mP1 ?h_fP1 ?h_gc2 ?h_cl2 ?h_mk2 ?h_fi2 ?h_ki2 ?h_no20 ?h_no21 ?h_mD2 ?h_fD2 ?h_gc3 ?h_cl3 ?h_mk3 ?h_fi3 ?h_ki3 ?h_no30 ?h_mD3 ?h_fD3 ?h_gc4 ?h_cl4 ?h_mk4 ?h_fi4 ?h_ki4 ?h_no40 ?h_mD4 ?h_fD4 ?h_er ?h_er_no ?h_er_i ?h_er_ty ?h_er_f ?h_er_k ?h_bk ?h_z_len ?h_z_int ?h_z_list ?h_z_abs ?h_z_range ?h_z_set ?h_z_all ?h_z_ord ?h_z_isinstance ?h_z_str ?h_z_dict ?h_z_zip ?h_z_tuple ?h_y0 ?h_y1 ?h_y2 ?h_y3
      (case h_g_pen => k_is)
      (case h_f_pen => (refine' XJ.fnF_mk ?q1 ?q2; (case q1 => k_is); (case q2 => k_is)))
      (case h_k_pen => k_is)
      (case h_g_draw => k_is)
      (case h_f_draw => (refine' XJ.fnF_mk ?q1 ?q2; (case q1 => k_is); (case q2 => k_is)))
      (case h_k_draw => k_is)
      (case h_g_pick => k_is)
      (case h_f_pick => (refine' XJ.fnF_mk ?q1 ?q2; (case q1 => k_is); (case q2 => k_is)))
      (case h_k_pick => k_is)
      (case h_g_sgn => k_is)
      (case h_f_sgn => (refine' XJ.fnF_mk ?q1 ?q2; (case q1 => k_is); (case q2 => k_is)))
      (case h_k_sgn => k_is)
      (case h_g_few => k_is)
      (case h_f_few => (refine' XJ.fnF_mk ?q1 ?q2; (case q1 => k_is); (case q2 => k_is)))
      (case h_k_few => k_is)
      (case h_g_row => k_is)
      (case h_f_row => (refine' XJ.fnF_mk ?q1 ?q2; (case q1 => k_is); (case q2 => k_is)))
      (case h_k_row => k_is)
      (case h_g_deed => k_is)
      (case h_f_deed => (refine' XJ.fnF_mk ?q1 ?q2; (case q1 => k_is); (case q2 => k_is)))
      (case h_k_deed => k_is)
      (case h_g_mkd => k_is)
      (case h_f_mkd => (refine' XJ.fnF_mk ?q1 ?q2; (case q1 => k_is); (case q2 => k_is)))
      (case h_k_mkd => k_is)
      (case h_g_jn => k_is)
      (case h_f_jn => (refine' XJ.fnF_mk ?q1 ?q2; (case q1 => k_is); (case q2 => k_is)))
      (case h_k_jn => k_is)
      (case h_g_law => k_is)
      (case h_f_law => (refine' XJ.fnF_mk ?q1 ?q2; (case q1 => k_is); (case q2 => k_is)))
      (case h_k_law => k_is)
      (case h_g_shf => k_is)
      (case h_f_shf => (refine' XJ.fnF_mk ?q1 ?q2; (case q1 => k_is); (case q2 => k_is)))
      (case h_k_shf => k_is)
      (case h_g_old => k_is)
      (case h_f_old => (refine' XJ.fnF_mk ?q1 ?q2; (case q1 => k_is); (case q2 => k_is)))
      (case h_k_old => k_is)
      (case h_g_jds => k_is)
      (case h_f_jds => (refine' XJ.fnF_mk ?q1 ?q2; (case q1 => k_is); (case q2 => k_is)))
      (case h_k_jds => k_is)
      (case h_g_jm => k_is)
      (case h_f_jm => (refine' XJ.fnF_mk ?q1 ?q2; (case q1 => k_is); (case q2 => k_is)))
      (case h_k_jm => k_is)
      (case h_g_pl => k_is)
      (case h_f_pl => (refine' XJ.fnF_mk ?q1 ?q2; (case q1 => k_is); (case q2 => k_is)))
      (case h_k_pl => k_is)
      (case h_g_da => k_is)
      (case h_f_da => (refine' XJ.fnF_mk ?q1 ?q2; (case q1 => k_is); (case q2 => k_is)))
      (case h_k_da => k_is)
      (case h_g_le => k_is)
      (case h_f_le => (refine' XJ.fnF_mk ?q1 ?q2; (case q1 => k_is); (case q2 => k_is)))
      (case h_k_le => k_is)
      (case h_g_li => k_is)
      (case h_f_li => (refine' XJ.fnF_mk ?q1 ?q2; (case q1 => k_is); (case q2 => k_is)))
      (case h_k_li => k_is)
      (case h_g_wo => k_is)
      (case h_f_wo => (refine' XJ.fnF_mk ?q1 ?q2; (case q1 => k_is); (case q2 => k_is)))
      (case h_k_wo => k_is)
      (case h_g_sh => k_is)
      (case h_f_sh => (refine' XJ.fnF_mk ?q1 ?q2; (case q1 => k_is); (case q2 => k_is)))
      (case h_k_sh => k_is)
      (case h_g_di => k_is)
      (case h_f_di => (refine' XJ.fnF_mk ?q1 ?q2; (case q1 => k_is); (case q2 => k_is)))
      (case h_k_di => k_is)
      (case h_g_cw => k_is)
      (case h_f_cw => (refine' XJ.fnF_mk ?q1 ?q2; (case q1 => k_is); (case q2 => k_is)))
      (case h_k_cw => k_is)
      (case h_g_cp => k_is)
      (case h_f_cp => (refine' XJ.fnF_mk ?q1 ?q2; (case q1 => k_is); (case q2 => k_is)))
      (case h_k_cp => k_is)
      (case h_gc0 => k_is)
      (case h_cl0 => (refine' ⟨?q1, ?q2, ?q3, ?q4⟩; (case q1 => k_is); (case q2 => k_is); (case q3 => k_is); (case q4 => k_is)))
      (case h_mk0 => (refine' ⟨?q1, ?q2, ?q3, ?q4⟩; (case q1 => k_is); (case q2 => k_is); (case q3 => k_is); (case q4 => k_is)))
      (case h_fi0 => (refine' XJ.fnF_mk ?q1 ?q2; (case q1 => k_is); (case q2 => k_is)))
      (case h_ki0 => k_is)
      (case h_no00 => (unfold L2.NoAttr; k_is))
      (case h_no01 => (unfold L2.NoAttr; k_is))
      (case h_mD0 => (refine' ⟨?q1, ?q2, ?q3⟩; (case q1 => k_is); (case q2 => k_is); (case q3 => k_is)))
      (case h_fD0 => (refine' XJ.fnF_mk ?q1 ?q2; (case q1 => k_is); (case q2 => k_is)))
      (case h_mP0 => (refine' ⟨?q1, ?q2, ?q3⟩; (case q1 => k_is); (case q2 => k_is); (case q3 => k_is)))
      (case h_fP0 => (refine' XJ.fnF_mk ?q1 ?q2; (case q1 => k_is); (case q2 => k_is)))
      (case h_gc1 => k_is)
      (case h_cl1 => (refine' ⟨?q1, ?q2, ?q3, ?q4⟩; (case q1 => k_is); (case q2 => k_is); (case q3 => k_is); (case q4 => k_is)))
      (case h_mk1 => (refine' ⟨?q1, ?q2, ?q3, ?q4⟩; (case q1 => k_is); (case q2 => k_is); (case q3 => k_is); (case q4 => k_is)))
      (case h_fi1 => (refine' XJ.fnF_mk ?q1 ?q2; (case q1 => k_is); (case q2 => k_is)))
      (case h_ki1 => k_is)
      (case h_no10 => (unfold L2.NoAttr; k_is))
      (case h_no11 => (unfold L2.NoAttr; k_is))
      (case h_mD1 => (refine' ⟨?q1, ?q2, ?q3⟩; (case q1 => k_is); (case q2 => k_is); (case q3 => k_is)))
      (case h_fD1 => (refine' XJ.fnF_mk ?q1 ?q2; (case q1 => k_is); (case q2 => k_is)))
      (case h_mP1 => (refine' ⟨?q1, ?q2, ?q3⟩; (case q1 => k_is); (case q2 => k_is); (case q3 => k_is)))
      (case h_fP1 => (refine' XJ.fnF_mk ?q1 ?q2; (case q1 => k_is); (case q2 => k_is)))
      (case h_gc2 => k_is)
      (case h_cl2 => (refine' ⟨?q1, ?q2, ?q3, ?q4⟩; (case q1 => k_is); (case q2 => k_is); (case q3 => k_is); (case q4 => k_is)))
      (case h_mk2 => (refine' ⟨?q1, ?q2, ?q3, ?q4⟩; (case q1 => k_is); (case q2 => k_is); (case q3 => k_is); (case q4 => k_is)))
      (case h_fi2 => (refine' XJ.fnF_mk ?q1 ?q2; (case q1 => k_is); (case q2 => k_is)))
      (case h_ki2 => k_is)
      (case h_no20 => (unfold L2.NoAttr; k_is))
      (case h_no21 => (unfold L2.NoAttr; k_is))
      (case h_mD2 => (refine' ⟨?q1, ?q2, ?q3⟩; (case q1 => k_is); (case q2 => k_is); (case q3 => k_is)))
      (case h_fD2 => (refine' XJ.fnF_mk ?q1 ?q2; (case q1 => k_is); (case q2 => k_is)))
      (case h_gc3 => k_is)
      (case h_cl3 => (refine' ⟨?q1, ?q2, ?q3, ?q4⟩; (case q1 => k_is); (case q2 => k_is); (case q3 => k_is); (case q4 => k_is)))
      (case h_mk3 => (refine' ⟨?q1, ?q2, ?q3, ?q4⟩; (case q1 => k_is); (case q2 => k_is); (case q3 => k_is); (case q4 => k_is)))
      (case h_fi3 => (refine' XJ.fnF_mk ?q1 ?q2; (case q1 => k_is); (case q2 => k_is)))
      (case h_ki3 => k_is)
      (case h_no30 => (unfold L2.NoAttr; k_is))
      (case h_mD3 => (refine' ⟨?q1, ?q2, ?q3⟩; (case q1 => k_is); (case q2 => k_is); (case q3 => k_is)))
      (case h_fD3 => (refine' XJ.fnF_mk ?q1 ?q2; (case q1 => k_is); (case q2 => k_is)))
      (case h_gc4 => k_is)
      (case h_cl4 => (refine' ⟨?q1, ?q2, ?q3, ?q4⟩; (case q1 => k_is); (case q2 => k_is); (case q3 => k_is); (case q4 => k_is)))
      (case h_mk4 => (refine' ⟨?q1, ?q2, ?q3, ?q4⟩; (case q1 => k_is); (case q2 => k_is); (case q3 => k_is); (case q4 => k_is)))
      (case h_fi4 => (refine' XJ.fnF_mk ?q1 ?q2; (case q1 => k_is); (case q2 => k_is)))
      (case h_ki4 => k_is)
      (case h_no40 => (unfold L2.NoAttr; k_is))
      (case h_mD4 => (refine' ⟨?q1, ?q2, ?q3⟩; (case q1 => k_is); (case q2 => k_is); (case q3 => k_is)))
      (case h_fD4 => (refine' XJ.fnF_mk ?q1 ?q2; (case q1 => k_is); (case q2 => k_is)))
      (case h_er => (refine' ⟨?q1, ?q2, ?q3, ?q4, ?q5, ?q6, ?q7, ?q8, ?q9, ?q10, ?q11, ?q12, ?q13, ?q14, ?q15⟩; (case q1 => k_is); (case q2 => kernel_rfl); (case q3 => kernel_rfl); (case q4 => k_is); (case q5 => k_is); (case q6 => k_is); (case q7 => k_is); (case q8 => k_is); (case q9 => k_is); (case q10 => k_is); (case q11 => k_is); (case q12 => k_is); (case q13 => k_is); (case q14 => k_is); (case q15 => (refine' XJ.xc_mk ?r1 ?r2; (case r1 => k_is); (case r2 => kernel_rfl)))))
      (case h_er_no => k_is)
      (case h_er_i => k_is)
      (case h_er_ty => k_is)
      (case h_er_f => (refine' XJ.fnF_mk ?q1 ?q2; (case q1 => k_is); (case q2 => k_is)))
      (case h_er_k => k_is)
      (case h_bk => kernel_rfl)
      (case h_z_len => k_is)
      (case h_z_int => k_is)
      (case h_z_list => k_is)
      (case h_z_abs => k_is)
      (case h_z_range => k_is)
      (case h_z_set => k_is)
      (case h_z_all => k_is)
      (case h_z_ord => k_is)
      (case h_z_isinstance => k_is)
      (case h_z_str => k_is)
      (case h_z_dict => k_is)
      (case h_z_zip => k_is)
      (case h_z_tuple => k_is)
      (case h_y0 => k_is)
      (case h_y1 => k_is)
      (case h_y2 => k_is)
      (case h_y3 => k_is)
    )
end
