import PyProof.Rows.All
import Wide.All
import OpenK.AllK
import Wide.FinOn
import KE.KExcInit
import HandS.ForMost
import HandS.Exc
import HandS.ExcOwn
import HandS.ExcInit
import HandS.ExcValue
import HandS.IsInst
import HandS.ExcIs
import KE.KExcIs
import HandS.MakeKwOnly
import HandS.SetFor
import HandS.RaiseMore
import KE.KxIndex
import HandS.Wide
import HandS.ReplaceLit
import HandS.Codes
import HandS.SortKw
import HandS.SetTxt0
import HandS.Strs
import HandS.Conv
import HandS.Walk
import HandS.Lambda
import HandS.ExcField
import HandS.Comp
import HandS.Star
import HandS.Defaults
import HandS.OwnEq
import PyProof.InstEq
import HandS.SlotsOwn
import KE.GoesMore
import PyProof.EnumMake
import HandS.ClsMeth
import HandS.Property
import HandS.TupAny
import HandS.WordsExc
import PyProof.ReprLen
import PyProof.Rows.ReprOcc
import HandS.Style
import PyProof.P3Eq
import HandS.EndTab
import HandS.Words
import PySem.Challenge.RW_linestream_k46_long_texts_made
set_option Elab.async false
set_option linter.all false
section
set_option Elab.async false
set_option linter.all false
set_option maxRecDepth 100000
set_option maxHeartbeats 5000000
namespace XK
open PySem PySem.W PySem.Calls PySem.HandSPX
section
variable {pg : Program} {w : World} {A : Around} {E : Value → Shared → Prop} {R : Result → Shared → Prop} {h : Heap} {gs : Array GenState} {dr : Drawn} {tk0 : Nat} {ost : OsState}
variable {nam q : Str} {C N : Addr} {bss bml bmb : List Value} {hdc : Bool} {snl : List Str} {subc : List Value} {abst : Bool} {coll : Option Bool} {ddc : Option Addr} {k0 k1 k2 k3 k5 : Option Value} {B nid iid : String}
variable {us : List Value} {kw : List (Str × Value)}
theorem free_check {B : String} {a b : String} {n : Nat} {names : List Str} :
    Bind.check ⟨.any, B, B, .cls, [⟨"args", .varPos, false⟩, ⟨"kwargs", .varKw, false⟩]⟩ a b n names = pure () := by
  cases names with
  | nil => rfl
  | cons x r => rfl
theorem new_checked {M : Model} (F : ExcBaseFacts B nid iid bmb) (hT : ∀ X : String, bml.contains (.type X) = bmb.contains (.type X)) {Q : Unit → Shared → Prop}
    (hC : h.get? C = some (excClassObj nam q C N bss bml hdc snl subc abst coll ddc k0 k1 k2 k3 k5 nid)) (hq : Q () ⟨h, gs, dr, tk0, ost⟩) :
    wpAny M A (checkBuiltinCall nid ⟨.ref C :: us, kw⟩) Q E ⟨h, gs, dr, tk0, ost⟩ := by
  have c1 : (Value.ref C :: bml).contains (.type B) = true := by
    rw [List.contains_cons, hT, F.hasB, Bool.or_true]
  have c2 := F.noStar
  simp only [F.newKind, F.newSplit, F.newRow,
    checkBuiltinCall]
  repeat (first
    | refine wpAny_loadPart_at hC ?_
    | (refine wpAny_isSubtype_exc hC ?_; rw [c1])
    | refine wpAny_staticBase_exc hC ?_
    | refine wpAny_madeBy_exc hC ?_
    | simp only [bne_self_eq_false, Bool.false_eq_true, if_false]
    | wp_step)
  exact hq
/-- the object is laid, behind the tuple of what was passed by position -/
theorem new_laid (F : ExcBaseFacts B nid iid bmb) (hT : ∀ X : String, bml.contains (.type X) = bmb.contains (.type X)) (hu : us.length ≤ sizeLine)
    (hC : h.get? C = some (excClassObj nam q C N bss bml hdc snl subc abst coll ddc k0 k1 k2 k3 k5 nid))
    (hq : R (.ok (.ret (.ref (h.objs.size + 1)))) ⟨(h.push (kdv_tup us)).push (excO C h.objs.size), gs, dr, tk0, ost⟩) :
    codeAny (model pg w) A (.builtin nid ⟨.ref C :: us, kw⟩) R ⟨h, gs, dr, tk0, ost⟩ := by
  have ends := F.ends
  have c1 : (Value.ref C :: bml).contains (.type B) = true := by
    rw [List.contains_cons, hT, F.hasB, Bool.or_true]
  have c2 : (Value.ref C :: bml).contains (.type "AttributeError") = false := by
    rw [List.contains_cons, hT, F.noAttr]
    rfl
  have c3 : (Value.ref C :: bml).contains (.type "NameError") = false := by
    rw [List.contains_cons, hT, F.noName]
    rfl
  refine codeAny_builtinAt
    F.entry ?_
  unfold
    Builtin.«BaseException.__new__»
  refine wpAt_bind ?_
  show wpAt _ _ _ (stack >>= _)
    _ _ _
  refine wpAt_bind (wpAt_stack fun pp qq => wpAt_of_wpAny ?_)
  wp_walk
  refine wpAt_of_wpAny ?_
  rw [F.owner]
  repeat (first
    | with_reducible refine wpAny_madeHere_exc F.canon hC ?_
    | with_reducible refine wpAny_loadPart_at hC ?_
    | (with_reducible refine wpAny_isSubtype_exc hC ?_
       first | rw [c1] | rw [c2] | rw [c3])
    | wp_step)
  show R _ _
  rw [Heap.size_push]
  exact hq
theorem type_called {fI : Addr} {Q : Fin → Shared → Prop} (F : ExcBaseFacts B nid iid bmb) (hT : ∀ X : String, bml.contains (.type X) = bmb.contains (.type X)) (hu : us.length ≤ sizeLine)
    (hC : h.get? C = some (excClassObj nam q C N bss bml hdc snl subc abst coll ddc k0 k1 k2 k3 k5 nid))
    (hi : Looks (model pg w) h (typeLookup (.ref C) "__init__") (some (.ref fI)))
    (hb : ∀ self, Looks (model pg w) h (bindSpecial (.ref fI) self) (.ref fI, [self]))
    (hq : codeAny (model pg w) A (.call (.ref fI) ⟨.ref (h.objs.size + 1) :: us, kw⟩)
      (fun res s' => match res with | .ok (.ret v) => v = .none ∧ Q (.done (.ret (.ref (h.objs.size + 1)))) s' | .ok _ => False | .error e => E e s')
      ⟨(h.push (kdv_tup us)).push (excO C h.objs.size), gs, dr, tk0, ost⟩) :
    wpAny (model pg w) A (Builtin.«type.__call__» ⟨.ref C :: us, kw⟩) Q E ⟨h, gs, dr, tk0, ost⟩ := by
  repeat (first
    | with_reducible refine wpAny_loadPart_at hC ?_
    | with_reducible refine wpAny_madeBy_exc hC ?_
    | wp_step)
  refine codeAny_call_builtin_code (Code.quiet_builtin _ F.quiet) (new_checked F hT hC ?_)
  refine new_laid F hT hu hC ?_
  show wpAny _ _ _ _ _ _
  have kk : ∀ b o, h.get? b = some o → ((h.push (kdv_tup us)).push (excO C h.objs.size)).get? b = some o := fun b o e =>
    Heap.get?_push_of_some _ (Heap.get?_push_of_some _ e)
  have got : ((h.push (kdv_tup us)).push (excO C h.objs.size)).get? (h.objs.size + 1) = some (excO C h.objs.size) := by heap_get
  have gotC := kk _ _ hC
  have self : (Value.ref C :: bml).contains (.ref C) = true := by simp
  have i1 := hi.keeps kk
  have b1 := (hb (.ref (h.objs.size + 1))).keeps kk
  unfold isInstance
  repeat (first
    | with_reducible refine wpAny_loadPart_at got ?_
    | (with_reducible refine wpAny_isSubtype_exc gotC ?_
       rw [self])
    | wp_step)
  show wpAny _ _ (typeLookup (.ref C) _)
    _ _ _
  refine i1.at (wpAny_holding (wpAny_bind (b1.at ?_)))
  refine wpAny_bind (wpAny_call (codeAny_mono hq fun res s' z => ?_))
  rcases res with er | (vv | _ | _ | _) <;> first | exact z | exact z.elim | skip
  obtain ⟨rfl, z⟩ := z
  first
    | exact wpAny_pure
        (wpAny_pure z)
    | (wp_walk; exact z)
theorem called {fI : Addr} (F : ExcBaseFacts B nid iid bmb) (hT : ∀ X : String, bml.contains (.type X) = bmb.contains (.type X)) (hu : us.length ≤ sizeLine)
    (hC : h.get? C = some (excClassObj nam q C N bss bml hdc snl subc abst coll ddc k0 k1 k2 k3 k5 nid))
    (hi : Looks (model pg w) h (typeLookup (.ref C) "__init__") (some (.ref fI)))
    (hb : ∀ self, Looks (model pg w) h (bindSpecial (.ref fI) self) (.ref fI, [self]))
    (hq : codeAny (model pg w) (A.under (.builtin "type.__call__" ⟨.ref C :: us, kw⟩)) (.call (.ref fI) ⟨.ref (h.objs.size + 1) :: us, kw⟩) (InitBack (h.objs.size + 1) R)
      ⟨(h.push (kdv_tup us)).push (excO C h.objs.size), gs, dr, tk0, ost⟩) :
    codeAny (model pg w) A (.call (.ref C) ⟨us, kw⟩) R ⟨h, gs, dr, tk0, ost⟩ := by
  have f1 := tc_lookup
  have f2 := tc_bind (.ref C)
  have isT : (⟨h, gs, dr, tk0, ost⟩ : Shared).TypeIs (.ref C) "type" := ⟨_, hC, rfl⟩
  refine codeAny_of_tree ?_
  show wpAny _ _ (callAny (.ref C) _)
    _ _ _
  repeat (any_goals (first
    | assumption
    | with_reducible refine wpAny_loadPart_at hC ?_
    | wp_step))
  refine ⟨rfl, ?_⟩
  refine codeAny_call_builtin_at (Code.quiet_builtin _ (by decide +kernel)) entry_typeCall (wpAny_check_type_call_sub hC (type_called F hT hu hC hi hb ?_))
  refine codeAny_mono hq fun res s' z => ?_
  rcases res with er | (vv | _ | _ | _) <;> exact z
end
/-! ### self.f = v on an exception of any built-in base, that has no dict yet -/
section
open Builtin.ObjectAttr Builtin
variable {pg : Program} {w : World} {A : Around} {E : Value → Shared → Prop} {R : Result → Shared → Prop} {hpz : Heap} {gs : Array GenState} {dr : Drawn} {tk0 : Nat} {ost : OsState}
variable {K : Frag} {name : Str} {tk : Tok} {v : Value} {x C dx : Addr} {fv : Array Value} {cd : ClassData} {bmb : List Value}
/-- what a class over a built-in exception says of stores -/
structure Opn (cd : ClassData) : Prop where
  ne : cd.mro.isEmpty = false
  ob : cd.mro.contains (.type "object") = true
  ps : ∀ self : Value, refuseLoop self "__setattr__" cd.mro = pure ()
  hd : cd.hasDict = true
theorem first_field (X : K.In hpz) (hx : hpz.get? x = some { cls := .ref C, data := .fields fv }) (hcd : clsIn K C = some cd) (O : Opn cd) (ha : findIn K (.ref C) name = some none)
    (hq : ∀ h' tk' dx, (∀ b o, b ≠ x → hpz.get? b = some o → h'.get? b = some o) → hpz.objs.size ≤ dx → dx ≠ x → h'.get? x = some { cls := .ref C, dict := some dx, data := .fields fv } →
      h'.Ns1 dx (fun y => if y = name then some v else none) → R (.ok (.ret .none)) ⟨h', gs, dr, tk', ost⟩) :
    codeAny (model pg w) A (.call (.builtin "object.__setattr__") ⟨[.ref x, .str name tk, v], []⟩) R ⟨hpz, gs, dr, tk0, ost⟩ := by
  have J : InstAt hpz x { cls := .ref C, data := .fields fv } C none := ⟨hx, rfl, rfl, trivial⟩
  have S := F.store_object
  have far : x ≠ hpz.objs.size := Nat.ne_of_lt (Heap.lt_size hx)
  have subc : Looks (model pg w) hpz (isInstance (.ref x) (.type "object")) true :=
    J.type.andThen (looks_mroIn X (by
      unfold mroIn
      rw [hcd, Option.bind_some, if_neg (by rw [O.ne]; decide), O.ob]))
  refine codeAny_call_builtin S.slot.plain S.entry ?_
  refine @check_slot (model pg w) _ _ ⟨hpz, gs, dr, tk0, ost⟩ "object.__setattr__" "object" "__setattr__" (.ref x) [.str name tk, v] [] _ S.kind S.split subc (S.args (.ref x) (.str name tk) v) ?_
  have m1 : Looks (model pg w) hpz (mroOf (.ref C)) cd.mro := (looks_clsIn X hcd).andThen .now
  have m2 : Looks (model pg w) hpz (storeTaker? none) none := .now
  have m3 : Looks (model pg w) hpz (classData C) cd := looks_clsIn X hcd
  rw [osa_eq, refuse_eq]
  refine wpAny_bind (wpAny_bind (J.type.at (wpAny_bind (m1.at ?_))))
  rw [O.ps]
  refine wpAny_pure (wpAny_bind (J.type.at (wpAny_bind ((looks_findIn X ha).at (wpAny_bind (m2.at ?_))))))
  show wpAny _ _ (storeInOwnDict (.ref x) (.ref C) (.str name tk) name v false)
    _ _ _
  have hh := O.hd
  obtain ⟨nam, bss, mro, ns, qn, hdd, snl, sb, abst, coll, del⟩ := cd
  dsimp only at hh
  subst hh
  unfold storeInOwnDict
    ownDictForStores
  repeat (first
    | with_reducible refine store_in_new ?_ ?_
    | with_reducible refine wpAny_loadPart_at hx ?_
    | with_reducible refine m3.at ?_
    | wp_step)
  · refine ⟨_, #[], _, (Heap.get?_update_ne _ _ _ _ far.symm).trans (Heap.get?_push_at rfl rfl), rfl, fun e he => absurd he (by simp), fun _ => rfl⟩
  · intro h' tk' hn' same
    have hx₁ : (hpz.push { cls := .type "dict", data := .dict #[] }).get? x = some { cls := .ref C, data := .fields fv } := Heap.get?_push_of_some _ hx
    refine hq h' tk' hpz.objs.size (fun b o hb ho => ?_) (Nat.le_refl _) far.symm ?_ hn'
    · have e1 := same.2 b (Nat.ne_of_lt (Heap.lt_size ho))
      exact e1.trans ((Heap.get?_update_ne _ _ _ _ hb).trans (Heap.get?_push_of_some _ ho))
    · have e2 := same.2 x far
      exact e2.trans (Heap.get?_update_self _ hx₁ rfl)
theorem next_field {m0 : Str → Option Value} {nl : List Str} (X : K.In hpz) (hx : hpz.get? x = some { cls := .ref C, dict := some dx, data := .fields fv }) (hns : hpz.Ns1 dx m0) (hw : Within m0 nl) (hz : nl.length ≤ 1000)
    (hcd : clsIn K C = some cd) (O : Opn cd) (ha : findIn K (.ref C) name = some none)
    (hq : ∀ h' tk', (∀ b o, b ≠ dx → hpz.get? b = some o → h'.get? b = some o) → h'.Ns1 dx (fun y => if y = name then some v else m0 y) → R (.ok (.ret .none)) ⟨h', gs, dr, tk', ost⟩) :
    codeAny (model pg w) A (.call (.builtin "object.__setattr__") ⟨[.ref x, .str name tk, v], []⟩) R ⟨hpz, gs, dr, tk0, ost⟩ := by
  obtain ⟨oD, _, _, hoD, _, _⟩ := hns.count hw
  have J : InstAt hpz x { cls := .ref C, dict := some dx, data := .fields fv } C (some oD) := ⟨hx, rfl, rfl, hoD⟩
  have S := F.store_object
  have subc : Looks (model pg w) hpz (isInstance (.ref x) (.type "object")) true :=
    J.type.andThen (looks_mroIn X (by
      unfold mroIn
      rw [hcd, Option.bind_some, if_neg (by rw [O.ne]; decide), O.ob]))
  refine codeAny_call_builtin S.slot.plain S.entry ?_
  refine @check_slot (model pg w) _ _ ⟨hpz, gs, dr, tk0, ost⟩ "object.__setattr__" "object" "__setattr__" (.ref x) [.str name tk, v] [] _ S.kind S.split subc (S.args (.ref x) (.str name tk) v) ?_
  have m1 : Looks (model pg w) hpz (mroOf (.ref C)) cd.mro := (looks_clsIn X hcd).andThen .now
  have m2 : Looks (model pg w) hpz (storeTaker? none) none := .now
  have m3 : Looks (model pg w) hpz (classData C) cd := looks_clsIn X hcd
  rw [osa_eq, refuse_eq]
  refine wpAny_bind (wpAny_bind (J.type.at (wpAny_bind (m1.at ?_))))
  rw [O.ps]
  refine wpAny_pure (wpAny_bind (J.type.at (wpAny_bind ((looks_findIn X ha).at (wpAny_bind (m2.at ?_))))))
  show wpAny _ _ (storeInOwnDict (.ref x) (.ref C) (.str name tk) name v false)
    _ _ _
  have hh := O.hd
  obtain ⟨nam, bss, mro, ns, qn, hdd, snl, sb, abst, coll, del⟩ := cd
  dsimp only at hh
  subst hh
  unfold storeInOwnDict
    ownDictForStores
  repeat (first
    | with_reducible refine OEX.store_in_old hns hw hz ?_
    | with_reducible refine wpAny_loadPart_at hx ?_
    | with_reducible refine m3.at ?_
    | wp_step)
  intro h' tk' hn' same
  exact hq h' tk' (fun b o hb ho => (same.2 b hb).trans ho) hn'
end
end XK
end
section
set_option Elab.async false
set_option linter.all false
set_option maxRecDepth 100000
set_option maxHeartbeats 4100000
namespace XK
open PySem PySem.W PySem.Calls PySem.HandSPX
open PyProof.Rows (envOfC)
/-! ### the text of an __init__ that keeps one field -/
def aOne (f : Str) (p1 p2 : Pos) : Arguments := { posonlyargs := [], args := [{ arg := "self", annotation := none, pos := p1 }, { arg := f, annotation := none, pos := p2 }], vararg := none, kwonlyargs := [], kw_defaults := [], kwarg := none, defaults := [] }
def bOne (f : Str) (q1 q2 q3 q4 : Pos) : List Stmt := [.Assign [.Attribute (.Name "self" q1) f q2] (.Name f q3) q4]
def sOne (f : Str) : Scope := { kind := .function, names := [(PySem.Str.ofString "self", .local), (f, .local)], isGenerator := false, isCoroutine := false, more := [] }
/-- what the written part says of an own exception class -/
structure XT (K : Frag) (C : Addr) : Prop where
  base : ∃ (B newId initId : String) (bmB : List Value), ExcBaseFacts B newId initId bmB ∧ excInitIn K C bmB newId = true
  opn : ∃ cd, clsIn K C = some cd ∧ Opn cd
  sa : findIn K (.ref C) "__setattr__" = some (some (.builtin "object.__setattr__"))
  ga : findIn K (.ref C) "__getattribute__" = some (some (.builtin "BaseException.__getattribute__"))
  gg : findIn K (.ref C) "__getattr__" = some none
  exC : subIn K (.ref C) (.type "BaseException") = some true
  kC : keepIn K (.ref C) = true
  hd : hasDictIn K C = true
  ac : findIn K (.ref C) "__class__" = some (some (.builtin "object.__class__"))
  gn : specialIn K (.builtin "object.__class__") "__get__" = some (some (.builtin "getset_descriptor.__get__"))
  tk : takesIn K (.builtin "object.__class__") = some true
  mo : mroIn K C (.type "object") = some true
/-- .. and of its __init__, which keeps the one field f -/
structure XI (K : Frag) (C : Addr) (f : Str) : Prop where
  noN : findIn K (.ref C) f = some none
  ne : f ≠ "self"
  fn : ∃ (fI : Addr) (qn : Str) (oc : Value) (od : Option Addr) (doc pm : Value) (an : Option Addr) (cdv ct : Value) (osl : Array (Option Value)) (p1 p2 q1 q2 q3 q4 : Pos),
    findIn K (.ref C) "__init__" = some (some (.ref fI)) ∧ typeIn K (.ref fI) = some (.type "function") ∧
    K.lookup fI = some ⟨oc, od, .func (fnOf "__init__" qn (aOne f p1 p2) (bOne f q1 q2 q3 q4) (sOne f) .none .none doc pm an cdv ct), osl⟩ ∧ codeIn K cdv qn = true ∧
    (∀ s x v, BindsTo s (fnOf "__init__" qn (aOne f p1 p2) (bOne f q1 q2 q3 q4) (sOne f) .none .none doc pm an cdv ct) ⟨[x, v], []⟩ [("self", x), (f, v)]) ∧
    (∀ s x v, BindsTo s (fnOf "__init__" qn (aOne f p1 p2) (bOne f q1 q2 q3 q4) (sOne f) .none .none doc pm an cdv ct) ⟨[x], [(f, v)]⟩ [("self", x), (f, v)])
theorem look_self (f : Str) : (sOne f).names.lookup ("self" : Str) = some NameKind.local := rfl
theorem look_f (f : Str) : (sOne f).names.lookup f = some NameKind.local := by
  show List.lookup f [(PySem.Str.ofString "self", NameKind.local), (f, NameKind.local)] = some .local
  by_cases h : f = PySem.Str.ofString "self"
  · rw [h]
    simp [List.lookup]
  · have e : (f == PySem.Str.ofString "self") = false := by simpa using h
    simp [List.lookup, e]
theorem load_local {M : Model} {s : Shared} {name : Str} {scope : Scope} {L a : Addr} {cd : Value} {m : Str → Option Value} {x : Str} {pos : Pos} {v : Value} {Q : Value → Shared → Prop} {A : Around} {E : Value → Shared → Prop}
    (hk : scope.kind = .function) (hl : scope.names.lookup x = some .local) (hd : (x == ("__debug__" : Str)) = false) (hn : s.heap.Ns L m) (hv : m x = some v) (h : Q v s) :
    wpAny M A (eval (.Name x pos) (envOfC name scope L a cd)) Q E s := wpAny_Name (wpAny_loadName_local hk hl hn hv h) hd
/-- a made exception: e, its own dict at d with the fields m -/
structure Made (h h' : Heap) (e C d : Addr) (m : Str → Option Value) : Prop where
  keep : ∀ b o, h.get? b = some o → h'.get? b = some o
  eb : h.objs.size ≤ e
  db : h.objs.size ≤ d
  ne : d ≠ e
  obj : ∃ t0 : Addr, h'.get? e = some ({ cls := .ref C, dict := some d, data := .fields #[.ref t0, .none, .none, .none, .bool false, .none] } : Obj)
  ns : h'.Ns1 d m
section
variable {prog : Program} {w : World} {A : Around} {E : Value → Shared → Prop} {R : Result → Shared → Prop} {s : Shared} {K : Frag} {C : Addr} {f : Str} {v : Value}
theorem made_one (T : XT K C) (I : XI K C f) (hdb : (f == ("__debug__" : Str)) = false) (X : K.In s.heap) (hlim : s.heap.NoLimit) (room : A.depth + 1 < recursionLimit) (us : List Value) (kw : List (Str × Value)) (hp : (us = [v] ∧ kw = []) ∨ (us = [] ∧ kw = [(f, v)]))
    (hq : ∀ h' tk e d, Made s.heap h' e C d (fun y => if y = f then some v else none) → R (.ok (.ret (.ref e))) { s with heap := h', toks := tk }) :
    codeAny (model prog w) A (.call (.ref C) ⟨us, kw⟩) R s := by
  obtain ⟨B, newId, initId, bmB, F, ini⟩ := T.base
  obtain ⟨cd, hcd, O⟩ := T.opn
  obtain ⟨fI, qn, oc, od, doc, pm, an, cdv, ct, osl, p1, p2, q1, q2, q3, q4, iC, tC, lf, co, b1, b2⟩ := I.fn
  obtain ⟨nm, N, q, bs, bm, hdct, sn, sub, ab, col, dd, k0, k1, k2, k3, k5, gC, hT⟩ := excInit_of X ini
  obtain ⟨hp0, g, dr, tk, os⟩ := s
  have ul : us.length ≤ sizeLine := by
    rcases hp with ⟨rfl, _⟩ | ⟨rfl, _⟩
    · show 1 ≤ sizeLine
      rw [sizeLine_eq]
      decide
    · exact Nat.zero_le _
  have bd : ∀ s x, BindsTo s (fnOf "__init__" qn (aOne f p1 p2) (bOne f q1 q2 q3 q4) (sOne f) .none .none doc pm an cdv ct) ⟨x :: us, kw⟩ [("self", x), (f, v)] := fun s x => by
    rcases hp with ⟨rfl, rfl⟩ | ⟨rfl, rfl⟩
    · exact b1 s x v
    · exact b2 s x v
  have k : ∀ b o, hp0.get? b = some o → ((hp0.push (kdv_tup us)).push (excO C hp0.objs.size)).get? b = some o := fun b o e => Heap.get?_push_of_some _ (Heap.get?_push_of_some _ e)
  have got : ((hp0.push (kdv_tup us)).push (excO C hp0.objs.size)).get? (hp0.objs.size + 1) = some (excO C hp0.objs.size) := by heap_get
  refine called F hT ul gC (looks_findIn X iC) (fun self => bind_fn X self tC) ?_
  have X1 := X.keeps k
  refine Att.call_fn (binds := [("self", .ref (hp0.objs.size + 1)), (f, v)]) (s := ⟨(hp0.push (kdv_tup us)).push (excO C hp0.objs.size), g, dr, tk, os⟩) X1 (hlim.keeps k) lf co ?_ (bd _ _) ?_ (fun s₁ IC => ?_) rfl rfl rfl
  · show A.depth + 1 < recursionLimit
    exact room
  · simp only [List.all_cons, List.all_nil, look_f f, Bool.and_true]
    rfl
  · obtain ⟨h₁, tk₁, rfl⟩ := IC.toInCall.same
    have k1 := IC.toInCall.keep
    have hn := IC.toInCall.ns
    have hx := k1 _ _ got
    have X2 : K.In h₁ := X1.keeps k1
    have e1 : (envOfC qn (sOne f) ((hp0.push (kdv_tup us)).push (excO C hp0.objs.size)).objs.size fI cdv).kindOf "self" = some .local := look_self f
    have e2 : (envOfC qn (sOne f) ((hp0.push (kdv_tup us)).push (excO C hp0.objs.size)).objs.size fI cdv).kindOf f = some .local := look_f f
    show wpAny _ _ (execs _ _) _ _ _
    refine wpAny_execs_cons (plainObj_wpAny_Assign_Attribute ?_)
    refine load_local (v := v) rfl (look_f f) hdb hn ?_ (load_local (v := .ref (hp0.objs.size + 1)) rfl (look_self f) (by decide) hn ?_ ?_)
    · simp only [bindL, e1, e2, if_true]
    · simp only [bindL, e1, e2, if_true]
      rw [if_neg (fun z => I.ne z.symm)]
    refine set_plain X2 (ox := excO C hp0.objs.size) (od := none) ⟨hx, rfl, rfl, trivial⟩ T.sa ?_
    refine first_field X2 hx hcd O I.noN fun h₃ tk₃ dx k₃ dn dne hx₃ hn₃ => ?_
    show wpAny _ _ (execs _ _) _ _ _
    have z0 : hp0.objs.size ≤ h₁.objs.size := Nat.le_of_lt (Nat.lt_of_succ_lt (show hp0.objs.size + 1 < h₁.objs.size from Heap.lt_size hx))
    refine wpAny_execs_nil ⟨rfl, hq h₃ tk₃ (hp0.objs.size + 1) dx ⟨fun b o e => ?_, Nat.le_succ _, Nat.le_trans z0 dn, dne, ⟨_, hx₃⟩, hn₃⟩⟩
    exact k₃ b o (Nat.ne_of_lt (Nat.lt_succ_of_lt (Heap.lt_size e))) (k1 _ _ (k _ _ e))
end
/-! ### two fields -/
def aTwo (f1 f2 : Str) (p1 p2 p3 : Pos) : Arguments := { posonlyargs := [], args := [{ arg := "self", annotation := none, pos := p1 }, { arg := f1, annotation := none, pos := p2 }, { arg := f2, annotation := none, pos := p3 }], vararg := none, kwonlyargs := [], kw_defaults := [], kwarg := none, defaults := [] }
def bTwo (f1 f2 : Str) (q1 q2 q3 q4 r1 r2 r3 r4 : Pos) : List Stmt := [.Assign [.Attribute (.Name "self" q1) f1 q2] (.Name f1 q3) q4, .Assign [.Attribute (.Name "self" r1) f2 r2] (.Name f2 r3) r4]
def sTwo (f1 f2 : Str) : Scope := { kind := .function, names := [(PySem.Str.ofString "self", .local), (f1, .local), (f2, .local)], isGenerator := false, isCoroutine := false, more := [] }
structure XJ (K : Frag) (C : Addr) (f1 f2 : Str) : Prop where
  no1 : findIn K (.ref C) f1 = some none
  no2 : findIn K (.ref C) f2 = some none
  ne1 : f1 ≠ "self"
  ne2 : f2 ≠ "self"
  ne : f1 ≠ f2
  fn : ∃ (fI : Addr) (qn : Str) (oc : Value) (od : Option Addr) (doc pm : Value) (an : Option Addr) (cdv ct : Value) (osl : Array (Option Value)) (p1 p2 p3 q1 q2 q3 q4 r1 r2 r3 r4 : Pos),
    findIn K (.ref C) "__init__" = some (some (.ref fI)) ∧ typeIn K (.ref fI) = some (.type "function") ∧
    K.lookup fI = some ⟨oc, od, .func (fnOf "__init__" qn (aTwo f1 f2 p1 p2 p3) (bTwo f1 f2 q1 q2 q3 q4 r1 r2 r3 r4) (sTwo f1 f2) .none .none doc pm an cdv ct), osl⟩ ∧ codeIn K cdv qn = true ∧
    (∀ s x u v, BindsTo s (fnOf "__init__" qn (aTwo f1 f2 p1 p2 p3) (bTwo f1 f2 q1 q2 q3 q4 r1 r2 r3 r4) (sTwo f1 f2) .none .none doc pm an cdv ct) ⟨[x, u, v], []⟩ [("self", x), (f1, u), (f2, v)]) ∧
    (∀ s x u v, BindsTo s (fnOf "__init__" qn (aTwo f1 f2 p1 p2 p3) (bTwo f1 f2 q1 q2 q3 q4 r1 r2 r3 r4) (sTwo f1 f2) .none .none doc pm an cdv ct) ⟨[x], [(f2, v), (f1, u)]⟩ [("self", x), (f1, u), (f2, v)])
theorem look2_self (f1 f2 : Str) : (sTwo f1 f2).names.lookup ("self" : Str) = some NameKind.local := rfl
theorem look2_1 (f1 f2 : Str) : (sTwo f1 f2).names.lookup f1 = some NameKind.local := by
  show List.lookup f1 [(PySem.Str.ofString "self", NameKind.local), (f1, NameKind.local), (f2, NameKind.local)] = some .local
  by_cases h : f1 = PySem.Str.ofString "self"
  · rw [h]
    simp [List.lookup]
  · have e : (f1 == PySem.Str.ofString "self") = false := by simpa using h
    simp [List.lookup, e]
theorem look2_2 (f1 f2 : Str) : (sTwo f1 f2).names.lookup f2 = some NameKind.local := by
  show List.lookup f2 [(PySem.Str.ofString "self", NameKind.local), (f1, NameKind.local), (f2, NameKind.local)] = some .local
  by_cases h : f2 = PySem.Str.ofString "self"
  · rw [h]
    simp [List.lookup]
  · have e : (f2 == PySem.Str.ofString "self") = false := by simpa using h
    by_cases h1 : f2 = f1
    · subst h1
      simp [List.lookup, e]
    · have e1 : (f2 == f1) = false := by simpa using h1
      simp [List.lookup, e, e1]
section
variable {prog : Program} {w : World} {A : Around} {E : Value → Shared → Prop} {R : Result → Shared → Prop} {s : Shared} {K : Frag} {C : Addr} {f1 f2 : Str} {u v : Value}
theorem made_two (T : XT K C) (I : XJ K C f1 f2) (hd1 : (f1 == ("__debug__" : Str)) = false) (hd2 : (f2 == ("__debug__" : Str)) = false) (X : K.In s.heap) (hlim : s.heap.NoLimit) (room : A.depth + 1 < recursionLimit) (us : List Value) (kw : List (Str × Value))
    (hp : (us = [u, v] ∧ kw = []) ∨ (us = [] ∧ kw = [(f2, v), (f1, u)]))
    (hq : ∀ h' tk e d, Made s.heap h' e C d (fun y => if y = f2 then some v else if y = f1 then some u else none) → R (.ok (.ret (.ref e))) { s with heap := h', toks := tk }) :
    codeAny (model prog w) A (.call (.ref C) ⟨us, kw⟩) R s := by
  obtain ⟨B, newId, initId, bmB, F, ini⟩ := T.base
  obtain ⟨cd, hcd, O⟩ := T.opn
  obtain ⟨fI, qn, oc, od, doc, pm, an, cdv, ct, osl, p1, p2, p3, q1, q2, q3, q4, r1, r2, r3, r4, iC, tC, lf, co, b1, b2⟩ := I.fn
  obtain ⟨nm, N, q, bs, bm, hdct, sn, sub, ab, col, dd, k0, k1, k2, k3, k5, gC, hT⟩ := excInit_of X ini
  obtain ⟨hp0, g, dr, tk, os⟩ := s
  have ul : us.length ≤ sizeLine := by
    rcases hp with ⟨rfl, _⟩ | ⟨rfl, _⟩
    · show 2 ≤ sizeLine
      rw [sizeLine_eq]
      decide
    · exact Nat.zero_le _
  have bd : ∀ s x, BindsTo s (fnOf "__init__" qn (aTwo f1 f2 p1 p2 p3) (bTwo f1 f2 q1 q2 q3 q4 r1 r2 r3 r4) (sTwo f1 f2) .none .none doc pm an cdv ct) ⟨x :: us, kw⟩ [("self", x), (f1, u), (f2, v)] := fun s x => by
    rcases hp with ⟨rfl, rfl⟩ | ⟨rfl, rfl⟩
    · exact b1 s x u v
    · exact b2 s x u v
  have k : ∀ b o, hp0.get? b = some o → ((hp0.push (kdv_tup us)).push (excO C hp0.objs.size)).get? b = some o := fun b o e => Heap.get?_push_of_some _ (Heap.get?_push_of_some _ e)
  have got : ((hp0.push (kdv_tup us)).push (excO C hp0.objs.size)).get? (hp0.objs.size + 1) = some (excO C hp0.objs.size) := by heap_get
  refine called F hT ul gC (looks_findIn X iC) (fun self => bind_fn X self tC) ?_
  have X1 := X.keeps k
  refine Att.call_fn (binds := [("self", .ref (hp0.objs.size + 1)), (f1, u), (f2, v)]) (s := ⟨(hp0.push (kdv_tup us)).push (excO C hp0.objs.size), g, dr, tk, os⟩) X1 (hlim.keeps k) lf co ?_ (bd _ _) ?_ (fun s₁ IC => ?_) rfl rfl rfl
  · show A.depth + 1 < recursionLimit
    exact room
  · simp only [List.all_cons, List.all_nil, look2_1 f1 f2, look2_2 f1 f2, Bool.and_true]
    rfl
  · obtain ⟨h₁, tk₁, rfl⟩ := IC.toInCall.same
    have k1 := IC.toInCall.keep
    have hn := IC.toInCall.ns
    have hx := k1 _ _ got
    have X2 : K.In h₁ := X1.keeps k1
    have e0 : (envOfC qn (sTwo f1 f2) ((hp0.push (kdv_tup us)).push (excO C hp0.objs.size)).objs.size fI cdv).kindOf "self" = some .local := look2_self f1 f2
    have e1 : (envOfC qn (sTwo f1 f2) ((hp0.push (kdv_tup us)).push (excO C hp0.objs.size)).objs.size fI cdv).kindOf f1 = some .local := look2_1 f1 f2
    have e2 : (envOfC qn (sTwo f1 f2) ((hp0.push (kdv_tup us)).push (excO C hp0.objs.size)).objs.size fI cdv).kindOf f2 = some .local := look2_2 f1 f2
    show wpAny _ _ (execs _ _) _ _ _
    refine wpAny_execs_cons (plainObj_wpAny_Assign_Attribute ?_)
    refine load_local (v := u) rfl (look2_1 f1 f2) hd1 hn ?_ (load_local (v := .ref (hp0.objs.size + 1)) rfl (look2_self f1 f2) (by decide) hn ?_ ?_)
    · simp only [bindL, e0, e1, e2, if_true]
      rw [if_neg I.ne]
    · simp only [bindL, e0, e1, e2, if_true]
      rw [if_neg (fun z => I.ne2 z.symm), if_neg (fun z => I.ne1 z.symm)]
    refine set_plain X2 (ox := excO C hp0.objs.size) (od := none) ⟨hx, rfl, rfl, trivial⟩ T.sa ?_
    refine first_field X2 hx hcd O I.no1 fun h₃ tk₃ dx k₃ dn dne hx₃ hn₃ => ?_
    have z1 : hp0.objs.size + 1 < h₁.objs.size := Heap.lt_size hx
    have z0 : hp0.objs.size ≤ h₁.objs.size := Nat.le_of_lt (Nat.lt_of_succ_lt z1)
    have nx : ∀ {b : Addr} {o : Obj}, hp0.get? b = some o → b ≠ hp0.objs.size + 1 := fun {b o} e => Nat.ne_of_lt (Nat.lt_succ_of_lt (Heap.lt_size e))
    have Lx : ((hp0.push (kdv_tup us)).push (excO C hp0.objs.size)).objs.size ≠ hp0.objs.size + 1 := by
      rw [Heap.size_push,
            Heap.size_push]
      exact Nat.succ_ne_self _
    have hn3 : h₃.Ns ((hp0.push (kdv_tup us)).push (excO C hp0.objs.size)).objs.size _ := Heap.Ns.at hn fun o e => k₃ _ o Lx e
    have X3 : K.In h₃ := fun b o e => k₃ b o (nx (X _ _ e)) (X2 b o e)
    show wpAny _ _ (execs _ _) _ _ _
    refine wpAny_execs_cons (plainObj_wpAny_Assign_Attribute ?_)
    refine load_local (v := v) rfl (look2_2 f1 f2) hd2 hn3 ?_ (load_local (v := .ref (hp0.objs.size + 1)) rfl (look2_self f1 f2) (by decide) hn3 ?_ ?_)
    · simp only [bindL, e0, e1, e2, if_true]
    · simp only [bindL, e0, e1, e2, if_true]
      rw [if_neg (fun z => I.ne2 z.symm), if_neg (fun z => I.ne1 z.symm)]
    have hw : Within (fun y => if y = f1 then some u else none) [f1] := fun y hy => by
      by_cases e : y = f1
      · rw [e]
        exact List.mem_cons_self ..
      · exact absurd (if_neg e) hy
    obtain ⟨oD, _, _, hoD, _, _⟩ := hn₃.count hw
    refine set_plain X3 (ox := { cls := .ref C, dict := some dx, data := .fields #[.ref hp0.objs.size, .none, .none, .none, .bool false, .none] }) (od := some oD) ⟨hx₃, rfl, rfl, hoD⟩ T.sa ?_
    refine next_field X3 hx₃ hn₃ hw (by show 1 ≤ 1000; decide) hcd O I.no2 fun h₄ tk₄ k₄ hn₄ => ?_
    show wpAny _ _ (execs _ _) _ _ _
    have nd : ∀ {b : Addr} {o : Obj}, hp0.get? b = some o → b ≠ dx := fun {b o} e => Nat.ne_of_lt (Nat.lt_of_lt_of_le (Nat.lt_of_lt_of_le (Heap.lt_size e) z0) dn)
    refine wpAny_execs_nil ⟨rfl, hq h₄ tk₄ (hp0.objs.size + 1) dx ⟨fun b o e => ?_, Nat.le_succ _, Nat.le_trans z0 dn, dne, ⟨_, k₄ _ _ (Ne.symm dne) hx₃⟩, hn₄⟩⟩
    exact k₄ b o (nd e) (k₃ b o (nx e) (k1 _ _ (k _ _ e)))
end
end XK
end
section
set_option Elab.async false
set_option linter.all false
set_option maxRecDepth 100000
set_option maxHeartbeats 4100000
namespace XK
open PySem PySem.Spec PyProof.Rows L2
section
variable {X : Cx} {pins : List (Addr × Obj)} {σ : L2.St} {H : Hp} {s : Shared} {C : Addr}
/-- a made exception is tracked, and its own dict -/
theorem tracked {h' : Heap} {e d : Addr} {m : Str → Option Value} {fs : List (Str × V)} (t' : Nat) (I : Inv X pins σ H s) (M : Made s.heap h' e C d m) (r : ∀ f, RelO (fs.lookup f) (m f)) :
    Inv X pins σ (upd (upd H d (.xd fs)) e (exo e C (some d))) { s with heap := h', toks := t' } := by
  have nd : H d = none := I.hok.fresh M.db
  have ne : H e = none := I.hok.fresh M.eb
  have ned : upd H d (.xd fs) e = none := by
    rw [upd_ne (Ne.symm M.ne)]
    exact ne
  have U1 : Un X.fs [] H (upd H d (.xd fs)) s.heap s.heap := Un.laid (fun _ _ q => q) M.db nd
  have U2 : Un X.fs [] (upd H d (.xd fs)) (upd (upd H d (.xd fs)) e (exo e C (some d))) s.heap h' := Un.laid M.keep M.eb ned
  obtain ⟨t0, ho⟩ := M.obj
  refine I.un (t' := t') (U1.trans U2) fun b o q => ?_
  by_cases hb : b = e
  · subst hb
    rw [upd_same] at q
    cases q
    exact exo_ok ho
  · rw [upd_ne hb] at q
    by_cases hd : b = d
    · subst hd
      rw [upd_same] at q
      cases q
      exact ⟨m, M.ns, r⟩
    · rw [upd_ne hd] at q
      refine (I.hok b o q).stay (fun c v _ z => M.keep c v z) (fun c z => ?_) fun c xs z => ?_
      · rw [upd_ne (ne_of_none z ne), upd_ne (ne_of_none z nd)]
        exact z
      · rw [upd_ne (ne_of_none z ne), upd_ne (ne_of_none z nd)]
        exact z
theorem rel_one {f : Str} {y : V} {u : Value} (r : RelV y u) (g : Str) : RelO ([(f, y)].lookup g) (if g = f then some u else none) := relO_put (fs := []) (mA := fun _ => none) r (fun _ => trivial) g
theorem rel_two {f1 f2 : Str} {y z : V} {u v : Value} (r : RelV y u) (r' : RelV z v) (g : Str) : RelO ([(f2, z), (f1, y)].lookup g) (if g = f2 then some v else if g = f1 then some u else none) :=
  relO_put (fs := [(f1, y)]) r' (rel_one r) g
/-- what follows a made exception -/
def Then1 (C : Addr) (f : Str) (v : V) (H : Hp) (Q : VK) : Prop := ∀ d e, H d = none → H e = none → d ≠ e → Q (.ref e) (upd (upd H d (.xd [(f, v)])) e (exo e C (some d)))
def Then2 (C : Addr) (f1 f2 : Str) (u v : V) (H : Hp) (Q : VK) : Prop := ∀ d e, H d = none → H e = none → d ≠ e → Q (.ref e) (upd (upd H d (.xd [(f2, v), (f1, u)])) e (exo e C (some d)))
def tEx1 (C : Addr) (f : Str) (ta : TA) : TE := fun σ H Q => ta σ H fun vs H1 => ∃ v, vs = [v] ∧ Then1 C f v H1 Q
def tEx2 (C : Addr) (f1 f2 : Str) (ta : TA) : TE := fun σ H Q => ta σ H fun vs H1 => ∃ u v, vs = [u, v] ∧ Then2 C f1 f2 u v H1 Q
def tEx2k (C : Addr) (f1 f2 : Str) (ta : TA) : TE := fun σ H Q => ta σ H fun vs H1 => ∃ v u, vs = [v, u] ∧ Then2 C f1 f2 u v H1 Q
end
section
variable {X : Cx} {x f f1 f2 : Str} {C : Addr} {k : Nat} {a b : Expr} {ta : TA} {te : TE} {p pos k1 k2 : Pos}
/-- x(a), an own exception class whose __init__ keeps one field -/
theorem pe_ex1 (T : XT X.K C) (J : XI X.K C f) (hr : Room k X.A) (gC : X.mg x = some (.ref C)) (hfd : (f == ("__debug__" : Str)) = false) (ha : PA X [a] ta) (hg : Gl X x := by rfl) (hdb : (x == ("__debug__" : Str)) = false := by decide)
    (he : starEach (a :: []) X.env = (false, eval a X.env) :: starEach [] X.env := by rfl) (hpl : (backTo pos (starEach [] X.env)).any (·.1) = false := by rfl) :
    PE X (.Call (.Name x p) [a] [] pos) (tEx1 C f ta) := by
  refine ⟨fun pins s σ H Q I h => ?_⟩
  refine wpAny_Call_Name_kw
        (ld_glob I hg gC ?_ hdb)
  refine PySem.W.callWith_K (h₀ := X.base) I.ok.mod.kin T.kC (thn (ha.run pos pins s σ H _ I h) fun us s1 hh => ?_) he hpl
  obtain ⟨vs, H1, I1, r1, v, ev, q1⟩ := hh
  subst ev
  refine ⟨I1.kIn, ?_⟩
  cases r1 with
  | cons rv rn =>
    rename_i v' us'
    cases rn
    show wpAny _ _ (call (.ref C) [v']) _ _ _
    refine wpAny_call (made_one (v := v') T J hfd I1.kIn I1.nolimit (by have := hr.dp; omega) [v'] [] (.inl ⟨rfl, rfl⟩) fun h' tk e d M => ?_)
    exact ⟨.ref e, _, tracked tk I1 M (rel_one rv), rfl, q1 d e (I1.hok.fresh M.db) (I1.hok.fresh M.eb) M.ne⟩
/-- x(f = a) -/
theorem pe_ex1k (T : XT X.K C) (J : XI X.K C f) (hr : Room k X.A) (gC : X.mg x = some (.ref C)) (hfd : (f == ("__debug__" : Str)) = false) (ha : PE X a te) (hg : Gl X x := by rfl) (hdb : (x == ("__debug__" : Str)) = false := by decide)
    (hpl : ((backTo pos (starEach [] X.env)).any (·.1) || (backToKw pos (keywordEach [⟨some f, a, k1⟩] X.env)).any (·.1.isNone)) = false := by rfl) :
    PE X (.Call (.Name x p) [] [⟨some f, a, k1⟩] pos) (tEx1 C f (tCons te tNil)) := by
  refine ⟨fun pins s σ H Q I h => ?_⟩
  refine wpAny_Call_Name_kw
        (ld_glob I hg gC ?_ hdb)
  refine PySem.W.callWith_KW0 (h₀ := X.base) I.ok.mod.kin T.kC rfl ?_ hpl
  refine thn ((pk_cons ha pk_nil).run pos pins s σ H _ I h) fun us s1 hh => ?_
  obtain ⟨vs, H1, I1, r1, v, ev, q1⟩ := hh
  subst ev
  refine ⟨I1.kIn, ?_⟩
  cases r1 with
  | cons rv rn =>
    rename_i v' us'
    cases rn
    show wpAny _ _ (call (.ref C) [] [(f, v')]) _ _ _
    refine wpAny_call (made_one (v := v') T J hfd I1.kIn I1.nolimit (by have := hr.dp; omega) [] [(f, v')] (.inr ⟨rfl, rfl⟩) fun h' tk e d M => ?_)
    exact ⟨.ref e, _, tracked tk I1 M (rel_one rv), rfl, q1 d e (I1.hok.fresh M.db) (I1.hok.fresh M.eb) M.ne⟩
/-- x(a, b) -/
theorem pe_ex2 (T : XT X.K C) (J : XJ X.K C f1 f2) (hr : Room k X.A) (gC : X.mg x = some (.ref C)) (h1 : (f1 == ("__debug__" : Str)) = false) (h2 : (f2 == ("__debug__" : Str)) = false) (ha : PA X [a, b] ta) (hg : Gl X x := by rfl) (hdb : (x == ("__debug__" : Str)) = false := by decide)
    (he : starEach (a :: [b]) X.env = (false, eval a X.env) :: starEach [b] X.env := by rfl) (hpl : (backTo pos (starEach [b] X.env)).any (·.1) = false := by rfl) :
    PE X (.Call (.Name x p) [a, b] [] pos) (tEx2 C f1 f2 ta) := by
  refine ⟨fun pins s σ H Q I h => ?_⟩
  refine wpAny_Call_Name_kw
        (ld_glob I hg gC ?_ hdb)
  refine PySem.W.callWith_K (h₀ := X.base) I.ok.mod.kin T.kC (thn (ha.run pos pins s σ H _ I h) fun us s1 hh => ?_) he hpl
  obtain ⟨vs, H1, I1, r1, u, v, ev, q1⟩ := hh
  subst ev
  refine ⟨I1.kIn, ?_⟩
  cases r1 with
  | @cons _ u' _ _ ru rn =>
    cases rn with
    | @cons _ v' _ _ rv rn =>
      cases rn
      show wpAny _ _ (call (.ref C) [u', v']) _ _ _
      refine wpAny_call (made_two (u := u') (v := v') T J h1 h2 I1.kIn I1.nolimit (by have := hr.dp; omega) [u', v'] [] (.inl ⟨rfl, rfl⟩) fun h' tk e d M => ?_)
      exact ⟨.ref e, _, tracked tk I1 M (rel_two ru rv), rfl, q1 d e (I1.hok.fresh M.db) (I1.hok.fresh M.eb) M.ne⟩
/-- x(f2 = b, f1 = a) -/
theorem pe_ex2k {te1 te2 : TE} (T : XT X.K C) (J : XJ X.K C f1 f2) (hr : Room k X.A) (gC : X.mg x = some (.ref C)) (h1 : (f1 == ("__debug__" : Str)) = false) (h2 : (f2 == ("__debug__" : Str)) = false) (hb : PE X b te2) (ha : PE X a te1) (hg : Gl X x := by rfl) (hdb : (x == ("__debug__" : Str)) = false := by decide)
    (hpl : ((backTo pos (starEach [] X.env)).any (·.1) || (backToKw pos (keywordEach [⟨some f2, b, k2⟩, ⟨some f1, a, k1⟩] X.env)).any (·.1.isNone)) = false := by rfl) :
    PE X (.Call (.Name x p) [] [⟨some f2, b, k2⟩, ⟨some f1, a, k1⟩] pos) (tEx2k C f1 f2 (tCons te2 (tCons te1 tNil))) := by
  refine ⟨fun pins s σ H Q I h => ?_⟩
  refine wpAny_Call_Name_kw
        (ld_glob I hg gC ?_ hdb)
  refine PySem.W.callWith_KW0 (h₀ := X.base) I.ok.mod.kin T.kC rfl ?_ hpl
  refine thn ((pk_cons hb (pk_cons ha pk_nil)).run pos pins s σ H _ I h) fun us s1 hh => ?_
  obtain ⟨vs, H1, I1, r1, v, u, ev, q1⟩ := hh
  subst ev
  refine ⟨I1.kIn, ?_⟩
  cases r1 with
  | @cons _ v' _ _ rv rn =>
    cases rn with
    | @cons _ u' _ _ ru rn =>
      cases rn
      show wpAny _ _ (call (.ref C) [] [(f2, v'), (f1, u')]) _ _ _
      refine wpAny_call (made_two (u := u') (v := v') T J h1 h2 I1.kIn I1.nolimit (by have := hr.dp; omega) [] [(f2, v'), (f1, u')] (.inr ⟨rfl, rfl⟩) fun h' tk e d M => ?_)
      exact ⟨.ref e, _, tracked tk I1 M (rel_two ru rv), rfl, q1 d e (I1.hok.fresh M.db) (I1.hok.fresh M.eb) M.ne⟩
/-- x(), an own exception class without __init__ -/
def tEx0 (C : Addr) : TE := fun σ H Q => ∀ e, H e = none → Q (.ref e) (upd H e (exo e C none))
theorem pe_ex0 {B newId initId : String} {bmB : List Value} (F : ExcBaseFacts B newId initId bmB) (q : PySem.W.excIn X.K C bmB newId = true) (gC : X.mg x = some (.ref C)) (kC : PySem.W.keepIn X.K (.ref C) = true) (hg : Gl X x := by rfl) (hdb : (x == ("__debug__" : Str)) = false := by decide) :
    PE X (.Call (.Name x p) [] [] pos) (tEx0 C) := by
  refine ⟨fun pins s σ H Q I h => ?_⟩
  refine wpAny_Call_Name_kw
        (ld_glob I hg gC ?_ hdb)
  refine PySem.W.callWith_K0 I.kIn kC ?_
  show wpAny _ _ (call (.ref C) []) _ _ _
  obtain ⟨bm, N, nm, qn, bs, hdct, sn, sub, ab, col, dd, k0, k1, k2, k3, k5, mN, hC, hN, hni, T⟩ := exc_obj I.kIn q
  obtain ⟨hp, g, dr, tk, os⟩ := s
  refine wpAny_call_exc_subT F T hC hN hni (fun h' a hm => ?_) (Nat.zero_le _)
  have hn : H a = none := I.hok.gone hm.new
  obtain ⟨t, ht, _,
        _⟩ := hm.there
  exact ⟨.ref a, upd H a (exo a C none), I.laidN hm.keeps hm.new hn (exo_ok (t1 := t) ht), rfl, h a hn⟩
/-- e.f, e an exception that is told, f one of its fields -/
def tGetX (K : PySem.W.Frag) (f : Str) (te : TE) : TE := fun σ H Q => te σ H fun y H1 => ∃ (e C d : Addr) (fs : List (Str × V)) (v : V), y = .ref e ∧ XT K C ∧ PySem.W.findIn K (.ref C) f = some none ∧ H1 e = some (exo e C (some d)) ∧ H1 d = some (.xd fs) ∧ fs.lookup f = some v ∧ Q v H1
theorem pe_getX {te : TE} (he : PE X a te) (hb : attributeBase a f X.env (eval a X.env) = eval a X.env := by rfl) : PE X (.Attribute a f pos) (tGetX X.K f te) := by
  refine ⟨fun pins s σ H Q I h => ?_⟩
  refine attr_of hb (thn (he.run pins s σ H _ I h) fun u s1 hh => ?_)
  obtain ⟨y, H1, I1, rx, e, C, d, fs, v, ey, T, no, ea, ed, l, q⟩ := hh
  subst ey
  obtain rfl : u = Value.ref e := rx
  obtain ⟨t0, ho⟩ := exo_at I1.hok ea
  obtain ⟨mA, hns, hrel⟩ := (show ObjOk X.prog X.w H1 s1.heap d (.xd fs) from I1.hok d _ ed)
  obtain ⟨od, hod, hl⟩ := lookIn_ns hns
  obtain ⟨w, hw, rw'⟩ := RelO.some_of (v := v) (o := mA f) (by rw [← l]; exact hrel f)
  have J : PySem.W.InstAt s1.heap e _ C (some od) := ⟨ho, rfl, rfl, hod⟩
  exact HandSPX.exc_get I1.kIn J T.ga T.gg T.exC (PySem.W.findObj_own T.hd no rfl (by rw [hl, hw])) (handed_of rw') ⟨v, H1, I1.tok _, rw', q⟩
/-- isinstance(e, c), e an exception that is told -/
def rIsX (K : PySem.W.Frag) : List V → Hp → VK → Prop := fun xs H Q => ∃ (e C : Addr) (d : Option Addr) (c : V) (u : Value) (r : Bool), xs = [.ref e, c] ∧ ClsV c u ∧ XT K C ∧ H e = some (exo e C d) ∧ (∀ dd, d = some dd → ∃ fs, H dd = some (.xd fs)) ∧ PySem.W.kitOne K (.ref C) u = some r ∧ Q (.bl r) H
theorem call_isX : CallR X (.builtin "isinstance") (rIsX X.K) := by
  intro pins s σ
        H xs us Q I r h
  obtain ⟨e, C, d, c, u, z, rfl, k, T, ea, hd, ek, q⟩ := h
  obtain ⟨u1, u2, rfl,
        r1, r2⟩ := vals2 r
  have e2 := k.eq r2
  subst e2
  cases (show u1 = Value.ref e from r1)
  obtain ⟨t0, ho⟩ := exo_at I.hok ea
  have J : ∃ od, PySem.W.InstAt s.heap e ({ cls := .ref C, dict := d, data := .fields #[.ref t0, .none, .none, .none, .bool false, .none] } : Obj) C od := by
    cases d with
    | none => exact ⟨none, ho, rfl, rfl, trivial⟩
    | some dd =>
      obtain ⟨fs, hf⟩ := hd dd rfl
      obtain ⟨mA, hns, _⟩ := (show ObjOk X.prog X.w H s.heap dd (.xd fs) from I.hok dd _ hf)
      obtain ⟨od, hod, _⟩ := lookIn_ns hns
      exact ⟨some od, ho, rfl, rfl, hod⟩
  obtain ⟨od, J⟩ := J
  have hc : (PySem.W.clsIn
        X.K C).isSome = true := by
    obtain ⟨cd, h1, _⟩ := T.opn
    rw [h1]
    rfl
  exact PySem.W.kia_one (PySem.W.kitx_exc hc T.ga T.gg T.exC T.ac T.gn T.tk T.mo) I.kIn J ek (fun z => nomatch z) fun tk => ⟨.bl z, H, I.tok tk, rfl, q⟩
end
end XK
end
section
set_option Elab.async false
set_option linter.all false
set_option maxRecDepth 100000
set_option maxHeartbeats 4100000
namespace XK
open PySem PySem.Spec PyProof.Rows L2
/-! ### repr of data -/
/-- what v is as data, dicts with keys of text or int at the outside as well -/
def flatD : PyData → Bool
  | .none => true
  | .bool _ => true
  | .int _ => true
  | .str _ => true
  | _ => false
theorem flat_reads {h : Heap} {u : Value} {d : PyData} {as : List Addr} (r : Reads h u d as) (f : flatD d = true) : as = [] := by
  cases r <;> first | rfl | cases f
theorem flats_read {h : Heap} : ∀ {us : List Value} {ds : List PyData} {as : List Addr}, ReadsAll h us ds as → ds.all flatD = true → as = []
  | _, _, _, .nil, _ => rfl
  | _, _, _, .cons r t, f => by
    rw [List.all_cons,
          Bool.and_eq_true] at f
    rw [flat_reads r f.1, flats_read t f.2]
    rfl
inductive DX (K : PySem.W.Frag) (H : Hp) : V → PyData → Prop
  | dp {v : V} {d : PyData} : Dp K H v d → DX K H v d
  | dc {a : Addr} {kvs : List (Key × V)} {ks vs : List PyData} : H a = some (.dK kvs) → DpAll K H (kvs.map fun p => kV p.1) ks → DpAll K H (kvs.map (·.2)) vs → ks.all flatD = true → vs.all flatD = true → DX K H (.ref a) (.dict (ks.zip vs))
inductive DXAll (K : PySem.W.Frag) (H : Hp) : List V → List PyData → Prop
  | nil : DXAll K H [] []
  | cons {v : V} {vs : List V} {d : PyData} {ds : List PyData} : DX K H v d → DXAll K H vs ds → DXAll K H (v :: vs) (d :: ds)
mutual
theorem noD {K : PySem.W.Frag} {H : Hp} : ∀ (d : PyData) (v : V), Dp K H v d → d.hasDict = false
  | .none, _, _ => by simp [PyData.hasDict]
  | .bool _, _, _ => by simp [PyData.hasDict]
  | .int _, _, _ => by simp [PyData.hasDict]
  | .str _, _, _ => by simp [PyData.hasDict]
  | .list ds, _, h => by
    cases h with
    | lst _ ha =>
      unfold PyData.hasDict
      exact noDs ds _ ha
  | .tuple ds, _, h => by
    cases h with
    | tup _ ha =>
      unfold PyData.hasDict
      exact noDs ds _ ha
  | .dict _, _, h => by cases h
theorem noDs {K : PySem.W.Frag} {H : Hp} : ∀ (ds : List PyData) (vs : List V), DpAll K H vs ds → PyData.hasDictAll ds = false
  | [], _, _ => by simp [PyData.hasDictAll]
  | d :: ds, _, h => by
    cases h with
    | cons a b =>
      unfold PyData.hasDictAll
      rw [noD d _ a, noDs ds _ b]
      rfl
end
theorem dpAll_length {K : PySem.W.Frag} {H : Hp} : ∀ {vs : List V} {ds : List PyData}, DpAll K H vs ds → vs.length = ds.length
  | _, _, .nil => rfl
  | _, _, .cons _ h => congrArg Nat.succ (dpAll_length h)
section
variable {X : Cx} {pins : List (Addr ×
      Obj)} {σ : L2.St} {H : Hp} {s : Shared}
theorem pairs_vals {P : Program} {w : World} : ∀ {kvs : List (Key × V)} {vs : List (Key × Value)} {es : List DictEntry}, KV kvs vs → Pairs (mixKind P w) es vs →
    Vals (kvs.map fun p => kV p.1) (es.map (·.key)) ∧ Vals (kvs.map (·.2)) (es.map (·.val))
  | _, _, _, .nil, .nil => ⟨.nil, .nil⟩
  | _, _, _, .cons r t, .cons hk hv hp => by
    obtain ⟨a, b⟩ := pairs_vals t hp
    obtain ⟨r1, r2⟩ := r
    refine ⟨.cons ?_ a, .cons ?_ b⟩
    · show RelV (kV _) _
      rw [r1]
      rcases keyIs_shape (show keyIs _ _ = true from hk) with ⟨i, tk, e1, e2⟩ | ⟨x, tk, e1, e2⟩
      · rw [e1]
        show RelV _ (DictEntry.key _)
        rw [e2]
        exact ⟨tk, rfl⟩
      · rw [e1]
        show RelV _ (DictEntry.key _)
        rw [e2]
        exact ⟨tk, rfl⟩
    · show RelV _ (DictEntry.val _)
      rw [hv]
      exact r2
theorem zip_fst : ∀ {ks vs : List PyData}, ks.length = vs.length → (ks.zip vs).map (·.1) = ks
  | [], [], _ => rfl
  | k :: ks, v :: vs, h => by
    rw [List.zip_cons_cons, List.map_cons, zip_fst (Nat.succ.inj h)]
theorem zip_snd : ∀ {ks vs : List PyData}, ks.length = vs.length → (ks.zip vs).map (·.2) = vs
  | [], [], _ => rfl
  | k :: ks, v :: vs, h => by
    rw [List.zip_cons_cons, List.map_cons, zip_snd (Nat.succ.inj h)]
/-- read off the heap; no address but lists' is met that may be the modules' dict -/
theorem DX.reads (I : Inv X pins σ H s) {v : V} {d : PyData} {u : Value} (h : DX X.K H v d) (r : RelV v u) : ∃ as, Reads s.heap u d as ∧ (d.hasDict = true → sysModules ∉ as) := by
  cases h with
  | dp h =>
    obtain ⟨as, q⟩ := Dp.reads I _ _ _ h r
    exact ⟨as, q, fun z => by rw [noD _ _ h] at z; cases z⟩
  | @dc a kvs ks vs ha hk hv fk fv =>
    cases (show u = Value.ref a from r)
    obtain ⟨_, hsys, us, rel, o, es, ep, ho, hx, hd, _, hp, _⟩ := (show ObjOk X.prog X.w H s.heap a (.dK kvs) from I.hok a _ ha)
    obtain ⟨rk, rv⟩ := pairs_vals rel hp
    obtain ⟨as, q1⟩ := Dp.readsAll I ks _ _ hk rk
    obtain ⟨bs, q2⟩ := Dp.readsAll I vs _ _ hv rv
    have hl : ks.length = vs.length := by
      rw [← dpAll_length hk, ← dpAll_length hv, List.length_map, List.length_map]
    refine ⟨a :: as ++ bs, Reads.dict ho hx.1 hd (by rw [zip_fst hl]; exact q1) (by rw [zip_snd hl]; exact q2), fun _ hm => ?_⟩
    rw [flats_read q1 fk, flats_read q2 fv] at hm
    have e : sysModules = a := by simpa using hm
    rw [e] at hsys
    simp at hsys
theorem DXAll.reads {b : Bool} (I : Inv X pins σ H s) : ∀ {vs : List V} {ds : List PyData} {us : List Value}, DXAll X.K H vs ds → (∀ d ∈ ds, d.hasDict = b) → Vals vs us → ∃ as, ReadsAll s.heap us ds as ∧ (b = true → sysModules ∉ as)
  | _, _, _, .nil, _, .nil => ⟨[], .nil, fun _ h => by cases h⟩
  | _, _, _, .cons a r, e, .cons q t => by
    obtain ⟨as, h1, n1⟩ := a.reads I q
    obtain ⟨bs, h2, n2⟩ := DXAll.reads I r (fun d hd => e d (List.mem_cons_of_mem _ hd)) t
    refine ⟨as ++ bs, .cons h1 h2, fun hb hm => ?_⟩
    rcases List.mem_append.mp hm with z | z
    · exact n1 ((e _ (List.mem_cons_self ..)).trans hb) z
    · exact n2 hb z
theorem dictAll_of {b : Bool} : ∀ {ds : List PyData}, (∀ d ∈ ds, d.hasDict = b) → PyData.hasDictAll ds = true → b = true
  | [], _, h => by
    unfold PyData.hasDictAll at h
    cases h
  | d :: ds, e, h => by
    unfold PyData.hasDictAll at h
    rw [Bool.or_eq_true] at h
    rcases h with h | h
    · rw [e d (List.mem_cons_self ..)] at h
      exact h
    · exact dictAll_of (fun x hx => e x (List.mem_cons_of_mem _ hx)) h
end
/-- the answer's size and depth are small -/
structure Shows (d : PyData) : Prop where
  sh : d.showable = true
  sz : d.shown.length ≤ sizeLine
  dp : d.depth ≤ 60
def rRepr (K : PySem.W.Frag) : List V → Hp → VK → Prop := fun xs H Q => ∃ v d, xs = [v] ∧ DX K H v d ∧ Shows d ∧ Q (.str d.shown) H
section
variable {X : Cx}
theorem call_repr (hg : X.A.guards = some []) (hu : X.A.units + 64 < cLine) : CallR X (.builtin "repr") (rRepr X.K) := by
  intro pins s σ
        H xs us Q I r h
  obtain ⟨v, d, rfl, hd, S, q⟩ := h
  cases r with
  | @cons _ u _ _ rv rn =>
    cases rn
    obtain ⟨as, hr, hs⟩ := hd.reads I rv
    have fin : ∀ h' t k, (∀ b o, s.heap.get? b = some o → h'.get? b = some o) → EP X pins σ Q (.str d.shown t) { s with heap := h', toks := k } := fun h' t k kk => ⟨.str d.shown, H, I.kept kk, ⟨_, rfl⟩, q⟩
    cases hr with
    | none => exact PySem.P.repr_of_none (by rw [PyData.shown_none] at fin; exact fin s.heap s.toks _ fun _ _ z => z)
    | bool b => exact PySem.P.repr_of_bool (by rw [PyData.shown_bool] at fin; exact fin s.heap s.toks _ fun _ _ z => z)
    | int i t =>
      have hi : i.natAbs.log2 < 1920 := by
        have z := S.sh
        unfold PyData.showable at z
        exact of_decide_eq_true z
      exact PySem.P.repr_of_int hi (by rw [PyData.shown_int] at fin; exact fin s.heap s.toks _ fun _ _ z => z)
    | str x t =>
      have z := S.sz
      rw [PyData.shown_str] at z fin
      exact PySem.P.repr_of_str (fin s.heap s.toks _ fun _ _ z => z) z
    | list h1 h2 h3 h4 => exact repr_of_reads' (.list h1 h2 h3 h4) S.sh hs hg (by have := S.dp; omega) (fun _ _ z => z) (fun h' t k kk => fin h' t k kk) S.sz
    | tuple h1 h2 h3 h4 => exact repr_of_reads' (.tuple h1 h2 h3 h4) S.sh hs hg (by have := S.dp; omega) (fun _ _ z => z) (fun h' t k kk => fin h' t k kk) S.sz
    | dict h1 h2 h3 h4 h5 => exact repr_of_reads' (.dict h1 h2 h3 h4 h5) S.sh hs hg (by have := S.dp; omega) (fun _ _ z => z) (fun h' t k kk => fin h' t k kk) S.sz
/-- repr of a list that was laid in the call: not the modules' dict -/
def rReprL (K : PySem.W.Frag) : List V → Hp → VK → Prop := fun xs H Q => ∃ (p : Addr) (vs : List V) (ds : List PyData) (b : Bool), xs = [.ref p] ∧ H p = some (.lst vs) ∧ p ≠ sysModules ∧ DXAll K H vs ds ∧ (∀ d ∈ ds, d.hasDict = b) ∧ Shows (.list ds) ∧ Q (.str (PyData.list ds).shown) H
theorem call_reprL (hg : X.A.guards = some []) (hu : X.A.units + 64 < cLine) : CallR X (.builtin "repr") (rReprL X.K) := by
  intro pins s σ
        H xs us Q I r h
  obtain ⟨p, vs, ds, b, rfl, hp, np, hd, hb, S, q⟩ := h
  cases r with
  | @cons _ u _ _ rv rn =>
    cases rn
    cases (show u = Value.ref p from rv)
    obtain ⟨_, its, n, rvs, ho⟩ := (show ObjOk X.prog X.w H s.heap p (.lst vs) from I.hok p _ hp)
    obtain ⟨as, hr, hs⟩ := hd.reads I hb rvs
    refine repr_of_reads' (Reads.list ho rfl rfl hr) S.sh (fun z => ?_) hg (by have := S.dp; omega) (fun _ _ z => z) (fun h' t k kk => ⟨.str (PyData.list ds).shown, H, I.kept kk, ⟨_, rfl⟩, q⟩) S.sz
    unfold PyData.hasDict at z
    intro hm
    rcases List.mem_cons.mp
          hm with e | e
    · exact np e.symm
    · exact hs (dictAll_of hb z) e
/-- a list display, and its address -/
def tLstS (t : TA) : TE := fun σ H Q => t σ H fun xs H1 => xs.length ≤ sizeLine ∧ ∀ p, H1 p = none → p ≠ sysModules → Q (.ref p) (upd H1 p (.lst xs))
theorem pe_lstS {es : List Expr} {t : TA} {pos : Pos} (h : PA X es t) : PE X (.List es pos) (tLstS t) := by
  refine ⟨fun pins s
        σ H Q I hq => ?_⟩
  refine wpAny_List_spliced (thn (h.run pos pins s σ H _ I hq) fun us s1 hh => ?_)
  obtain ⟨xs, H1, I1, r, z, q⟩ := hh
  refine ⟨by rw [← r.length]; exact z, ?_⟩
  have free : H1 s1.heap.objs.size = none := I1.hok.fresh (Nat.le_refl _)
  have big := Inv.big I1
  refine ⟨.ref s1.heap.objs.size, upd H1 s1.heap.objs.size (.lst xs), I1.laid (t' := s1.toks) (fun b u e => Heap.get?_push_of_some _ e) (Nat.le_refl _) ?_, rfl, q _ free (Ne.symm (Nat.ne_of_lt big))⟩
  exact ⟨z, us, 0, r,
        Heap.get?_push_size _ rfl⟩
/-- xs.count(b), truth values -/
def eqb (k : Bool) (v : Value) : Bool := match v with
  | .bool n => n == k
  | _ => false
theorem eqb_gives {k : Bool} {A : Around} {s : Shared} : ∀ {us : List Value} {bs : List Bool}, Vals (bs.map V.bl) us → ∀ y ∈ us, SeqAt.EqAt A s y (.bool k) (eqb k y)
  | _, [], .nil => fun y hy => by cases hy
  | _, b :: bs, .cons r h => fun y hy => by
    rcases List.mem_cons.mp
          hy with e | e
    · rw [e, show _ = Value.bool b from r]
      exact SeqAt.EqAt.bool_bool b k
    · exact eqb_gives h y e
theorem eqb_count {k : Bool} : ∀ {us : List Value} {bs : List Bool}, Vals (bs.map V.bl) us → us.countP (eqb k) = bs.count k
  | _, [], .nil => rfl
  | _, b :: bs, .cons r h => by
    rw [List.countP_cons, List.count_cons, eqb_count (k := k) h, show _ = Value.bool b from r]
    rfl
def rCntB (K : PySem.W.Frag) : V → List V → Hp → VK → Prop := fun x xs H Q => ∃ (p : Addr) (bs : List Bool) (k : Bool), x = .ref p ∧ xs = [.bl k] ∧ SqL K H p (bs.map V.bl) ∧ Q (.int (bs.count k : Nat)) H
theorem mt_count_bool : MtR X "list.count" (rCntB X.K) := by
  intro pins s σ H x
        xs v us Q I rx rxs h
  obtain ⟨p, bs, k, rfl, rfl, hs, q⟩ := h
  cases rx
  obtain ⟨u, rfl,
        ru⟩ := rxs.one
  cases (show u = Value.bool k from ru)
  obtain ⟨its, rv, ⟨⟨cls, dd, data, sl⟩,
        n, ho, hc, hdn, hd⟩, hlen⟩ := I.list hs
  simp only at hc hd
  subst hc hd
  refine call_meets PySem.F.slot_list_count ⟨_, ho, rfl⟩ PySem.F.entry_list_count (PySem.F.args_list_count_2 _ _) (SeqAt.list_countAt p its.toArray n dd sl (.bool k) (eqb k))
    ⟨ho, fun y hy => eqb_gives rv y (by simpa using hy), ?_⟩
  have ec : its.toArray.toList.countP (eqb k) = bs.count k := eqb_count rv
  refine ⟨.int (bs.count k : Nat), H, I.tok _, ⟨s.toks, ?_⟩, q⟩
  show Value.int ((its.toArray.toList.countP (eqb k) : Nat) : Int) s.toks = Value.int ((bs.count k : Nat) : Int) s.toks
  rw [ec]
/-- a short text, many times -/
theorem op_mul_str : OpR X (binaryOp .Mult) (fun x y H Q => ∃ (z : Str) (i : Int), x = .str z ∧ y = .int i ∧ z.length ≤ 16 ∧ 0 ≤ i ∧ i ≤ 1000 ∧ Q (.str (Txt.mul z i)) H) := by
  intro pins s σ H x
        y v u Q I rx ry h
  obtain ⟨z, i, rfl, rfl, hz, h0, h1, q⟩ := h
  obtain ⟨t, rfl⟩ := rx
  obtain ⟨t', rfl⟩ := ry
  refine PySem.W.KXi.mul rfl hz (by omega) (by omega) fun tk k _ _ => ?_
  exact ⟨.str (Txt.mul z i), H, I.tok _, ⟨_, rfl⟩, q⟩
end
end XK
end
section
set_option Elab.async false
set_option linter.all false
set_option maxRecDepth 100000
set_option maxHeartbeats 4100000
namespace XK
open PySem PySem.Spec PyProof.Rows L2
/-! ### a law's own def: it is called where no repr is under way -/
section
variable {P : Program} {w : World} {K : PySem.W.Frag} {mg : Str → Option Value} {base : Heap} {CX : CXT} {k : Nat} {f : Addr} {fd : FuncData} {N ps : List Str} {sp : Sp}
/-- a def's promise where the claim's caller calls it -/
structure AtCaller (P : Program) (w : World) (K : PySem.W.Frag) (mg : Str → Option Value) (base : Heap) (CX : CXT) (k : Nat) (f : Addr) (fd : FuncData) (ps : List Str) (sp : Sp) : Prop where
  go : ∀ (outer : List Env) (s : Shared) (H : Hp) (args : Args) (us : List Value) (vs : List V) (Q : VK) (E : XK), Room k callerA → Env0 P w K mg base callerA outer s H → BindsTo s fd args (ps.zip us) → Vals vs us → sp vs H Q E →
    codeAny (model P w) callerA (.call (.ref f) args) (CR CX outer P w H s Q E) s
theorem atCaller {x qual : Str} {st : Stmt} (F : Fun K x qual st f fd) (S : FnScope N ps (defScope st)) (len : ∀ vs H Q E, sp vs H Q E → vs.length = ps.length)
    (body : ∀ (cdv : Value) (outer : List Env) (s : Shared) (H : Hp) (vs : List V) (Q : VK) (E : XK), Room k (callerA.deeper (envOfC qual (defScope st) s.heap.objs.size f cdv)) → sp vs H Q E →
      ∃ t, PSs (cxOf CX P w K mg base N qual (defScope st) f cdv callerA outer s H E).nox (defBody st) t ∧ t { nx := fun _ H' => Q .non H', rt := Q } (start N vs) H) :
    AtCaller P w K mg base CX (k + 1) f fd ps sp := by
  obtain ⟨oc, od, kV, doc, pm, an,
        cdv, ct, osl, rfl, lk, hcd⟩ := F.ex
  constructor
  intro outer s H args us vs Q E room env bind rel want
  have count := len _ _ _ _ want
  have inn : K.In s.heap := env.mod.kin.keeps fun b o e => (env.bs b o e).1
  have lim : s.heap.NoLimit := env.mod.nolimit.keeps fun b o e => (env.bs b o e).1
  have kinds : ∀ y ∈ ps.zip us, (defScope st).names.lookup y.1 = some .local ∨ ((defScope st).names.lookup y.1 = some .cell ∧ ((cellsFrom (s.heap.objs.size + 1) (defScope st).names []).lookup y.1).isSome = true) := by
    rintro ⟨n, v⟩ hy
    cases S.par n (List.of_mem_zip hy).1 with
    | inl q => exact .inl q
    | inr q => exact .inr ⟨q, PySem.W.cellsFrom_some _ _ _ (.inl q)⟩
  refine codeAny_call_function room.depth (inn _ _ lk) rfl S.co S.gen rfl (PySem.W.codeRec_of inn hcd) (bind _ _ _ _ ?_)
  refine wpAny_newFunctionEnv_cells S.kind kinds fun en hen s1 entered => ?_
  subst hen
  refine ⟨lim.keeps entered.toInCall.keep, codeAny_func ?_⟩
  obtain ⟨t, der, rd⟩ := body cdv outer s H vs Q E (room.deeper _) want
  have I0 : Inv (cxOf CX P w K mg base N qual (defScope st) f cdv callerA outer s H E) [] (start N vs) H s1 := inv_start S room.hd env count rel entered
  refine wpAny_mono (der.nox.run [] s1 (start N vs) H _ I0 rd) (fun flow s' res => ?_) fun _ _ res => res
  cases flow with
  | ret u =>
    obtain ⟨v, σ', H', J, rv, q⟩ := res
    exact ⟨v, H', J.os, J.bare, J.base, J.hok, rv, q⟩
  | next =>
    obtain ⟨σ', H', J, q⟩ := res
    exact ⟨V.non, H', J.os, J.bare, J.base, J.hok, rfl, q⟩
  | brk =>
    obtain ⟨_, _, _, no⟩ := res
    exact no.elim
  | cont =>
    obtain ⟨_, _, _, no⟩ := res
    exact no.elim
end
/-- the law's call: nothing but the script may be tracked at its entry -/
theorem caller_runs {P : Program} {w : World} {K : PySem.W.Frag} {mg mb : Str → Option Value} {k : Nat} {fa a : Addr} {fd : FuncData} {x : Str} {sp : Sp} {s₁ : Shared} {vs : List Value} {ns : List Int}
    (inn : K.In s₁.heap) (glob : s₁.heap.Ns mainGlobals mg) (bns : s₁.heap.Ns builtinsNs mb) (boot : ∀ x : Str, x ≠ "__name__" → mb x = bootBuiltins x) (lim : s₁.heap.NoLimit) (gens : s₁.gens = #[])
    (obj : s₁.heap.get? a = some { cls := .type "list", data := .seq vs.toArray }) (inz : IntsAre vs ns) (short : ns.length ≤ sizeLine) (room : Room k callerA)
    (F : ∀ base : Heap, K.In base → base.Ns mainGlobals mg → AtCaller P w K mg base CX0 k fa fd [x] sp) (bind : ∀ (s : Shared) (u : Value), BindsTo s fd ⟨[u], []⟩ [(x, u)])
    (want : ∀ H : Hp, SqL K H a (ns.map V.int) → sp [.ref a] H (fun v _ => v = .bl true) fun _ _ _ => False) :
    codeAny (model P w) callerA (.call (.ref fa) ⟨[.ref a], []⟩) (fun r s' => r = .ok
          (.ret (.bool true)) ∧ OldK s₁.heap s'.heap ∧ s'.os = s₁.os ∧ AllBare s'.gens) s₁ := by
  have vals := vals_ints inz
  have many := inz.length
  have main : ∀ H : Hp, (∀ b, H b = none ∨ ∃ ob xs, H b = some (.frz ob xs)) → SqL K H a (ns.map V.int) → HOk P w H s₁.heap → (∀ b, H b ≠ none → b = a ∧ K.lookup b = none) →
      codeAny (model P w) callerA (.call (.ref fa) ⟨[.ref a], []⟩) (fun r s' => r = .ok
            (.ret (.bool true)) ∧ OldK s₁.heap s'.heap ∧ s'.os = s₁.os ∧ AllBare s'.gens) s₁ := by
    intro H frozen seq ok alone
    have plain : ∀ {b : Addr} {o : Obj}, s₁.heap.get? b = some o → (b = a → False) → H b = none := fun {b o} _ nb => by
      cases q : H b with
      | none => rfl
      | some u => exact (nb (alone b (by rw [q]; simp)).1).elim
    have space : ∀ {b : Addr} {m : Str → Option Value}, s₁.heap.Ns b m → (hidT s₁.heap H).Ns b m := fun {b m} ⟨o, es, ep, e, d, r⟩ =>
      ⟨o, es, ep, hidT_get e (plain e fun z => by
        rw [z, obj] at e
        cases e
        cases (show Data.seq vs.toArray _ = Data.dict es ep from d)), d, r⟩
    have kept : K.In (hidT s₁.heap H) := fun b o e => hidT_get (inn b o e) (by
      cases q : H b with
      | none => rfl
      | some u =>
        have z := (alone b (by rw [q]; simp)).2
        rw [z] at e
        cases e)
    have md : Mod K mg (hidT s₁.heap H) := ⟨kept, space glob, ⟨mb, space bns, boot⟩, by
      obtain ⟨mc, h1, h2⟩ := lim
      exact ⟨mc, space h1, h2⟩⟩
    have env : Env0 P w K mg (hidT s₁.heap H) callerA [] s₁ H :=
      ⟨rfl, md, fun b o e => of_hidT e, Nat.le_of_eq (hidT_size _ _), trivial, fun b hb => (by cases hb), ok, AllBare.of_eq gens⟩
    have res := (F _ kept (space glob)).go [] s₁ H ⟨[.ref a], []⟩ [.ref a] [.ref a] _ _ room env (bind s₁ (.ref a)) (.cons rfl .nil) (want H seq)
    refine codeAny_mono res fun r s' h => ?_
    cases r with
    | error e => exact False.elim h
    | ok fl =>
      cases fl with
      | next => exact False.elim h
      | brk => exact False.elim h
      | cont => exact False.elim h
      | ret u =>
        obtain ⟨v, H', os, bare, un, ok', rel, q⟩ := h
        obtain rfl : v = .bl true := q
        obtain rfl : u = Value.bool true := rel
        refine ⟨rfl, OldK.of_keep
              fun b o e => ?_, os, bare⟩
        rcases frozen b with z | ⟨ob, xs, z⟩
        · exact un.keep b o e z (fun z => by cases z) (fun z => by cases z)
        · obtain ⟨e1, _⟩ := ok b _ z
          obtain ⟨e2, _⟩ := ok' b _ (un.frzs b ob _ z)
          rw [e] at e1
          cases e1
          exact e2
  cases hk : K.lookup a with
  | some o =>
    have e := inn a o hk
    rw [obj] at e
    cases e
    refine main (fun _ => none) (fun _ => .inl rfl) (.inr ⟨_, vs.toArray, _, hk, rfl, rfl, rfl, ?_, ?_⟩) (fun b u z => by cases (show (none : Option HO) = some u from z)) fun b z => absurd rfl z
    · rw [List.size_toArray, many]
      exact short
    · simpa using vals
  | none =>
    refine main (upd (fun _ => none) a (.frz { cls := .type "list", data := .seq vs.toArray } (.lst (ns.map V.int)))) (fun b => ?_) (.inl (.inr ⟨_, upd_same⟩)) (fun b u z => ?_) fun b z => ?_
    · by_cases hb : b = a
      · rw [hb]
        exact .inr ⟨_, _, upd_same⟩
      · exact .inl (upd_ne hb)
    · by_cases hb : b = a
      · subst hb
        rw [upd_same] at z
        cases z
        exact ⟨obj, by rw [List.length_map]; exact short, vs, _, vals, obj⟩
      · rw [upd_ne hb] at z
        cases z
    · by_cases hb : b = a
      · exact ⟨hb, by rw [hb]; exact hk⟩
      · exact absurd (upd_ne hb) z
/-- the goal that the head leaves -/
theorem caller_walk {l : PySem.W.OpenLaw} {n k : Nat} {q : Program} {loose : List Str} {XP : (Str → Option Value) → Heap → Prop} {YP : World → Heap → Prop} {d : DefRec} {K : Params → PySem.W.Frag} {sp : World → Sp} {x : Str}
    (most : l.most = some n) (small : n ≤ sizeLine) (plain : d.params.defaults = []) (room : Room k callerA)
    (Y : ∀ (w : World) (h : Heap), YP w h → (K w.params).In h)
    (F : ∀ (w : World) (mg : Str → Option Value) (fa : Addr) (h : Heap), (K w.params).In h → h.Ns mainGlobals mg → mg d.name = some (.ref fa) →
      ∃ fd : FuncData, (∀ (s : Shared) (u :
            Value), BindsTo s fd ⟨[u], []⟩ [(x, u)]) ∧
        ∀ base : Heap, (K w.params).In base → base.Ns mainGlobals mg → AtCaller l.prog w (K w.params) mg base CX0 k fa fd [x] (sp w))
    (want : ∀ (w : World) (H : Hp) (a : Addr) (ns : List Int), ns.length ≤ n → SqL (K w.params) H a (ns.map V.int) → sp w [.ref a] H (fun v _ => v = .bl true) fun _ _ _ => False) :
    PySem.W.WalkO q loose XP YP l.row.toRowW
          d [] (fun f vs => PySem.call f vs) := by
  refine Att.attach_call most plain fun w s₀ s₁ mg mb fa o pm cd doc a vs ns G y ho hd hcd hmg obj inz many gens => ?_
  obtain ⟨fd, bind, run⟩ := F w mg fa _ (Y w _ y) G.T.g hmg
  exact caller_runs (Y w _ y) G.T.g G.T.b G.T.builtins G.T.nolimit gens obj inz (Nat.le_trans many small) room run bind fun H seq => want w H a ns many seq
end XK
end
section
set_option Elab.async false
set_option linter.all false
set_option maxRecDepth 100000
set_option maxHeartbeats 4100000
namespace LA
open PySem L2
/-! ### the text by places -/
def top (i : Nat) : Stmt := PySem.Challenge.pw_linestream_k46_long_texts_made.main.body.getD i (.Pass ⟨0, 0, 0, 0⟩)
abbrev sPen : Stmt := top 35
abbrev sDraw : Stmt := top 36
abbrev sPick : Stmt := top 37
/-! ### the pen: a dict of cells, turn, left -/
abbrev kC : Key := Sum.inr "cells"
abbrev kT : Key := Sum.inr "turn"
abbrev kL : Key := Sum.inr "left"
theorem nCT : ¬ (kC = kT) := by decide +kernel
theorem nCL : ¬ (kC = kL) := by decide +kernel
theorem nTC : ¬ (kT = kC) := by decide +kernel
theorem nTL : ¬ (kT = kL) := by decide +kernel
theorem nLC : ¬ (kL = kC) := by decide +kernel
theorem nLT : ¬ (kL = kT) := by decide +kernel
theorem put_same_len {kvs : List (Key × V)} {k : Key} {v u : V} (h : valV kvs k = some u) : (putK kvs k v).length = kvs.length := by
  unfold putK
  rw [valV_any, h]
  simp
/-- the pen stands at d, at most n turns were drawn, its cells at c are the ints ns -/
structure Pen (H : Hp) (d c : Addr) (n : Int) (ns : List Int) (kvs : List (Key × V)) (t l : Int) : Prop where
  dc : H d = some (.dK kvs)
  vc : valV kvs kC = some (.ref c)
  vt : valV kvs kT = some (.int t)
  vl : valV kvs kL = some (.int l)
  t0 : 0 ≤ t
  tn : t ≤ n
  sz : kvs.length ≤ 3
  cs : H c = some (.lst (ns.map V.int))
  cl : ns.length ≤ 63
theorem Pen.getC {H d c n ns kvs t l} (p : Pen H d c n ns kvs t l) : DGet H d (.str "cells") (some (.ref c)) := by
  have h := DGet.k (k := kC) p.dc
  rw [p.vc] at h
  exact h
theorem Pen.getT {H d c n ns kvs t l} (p : Pen H d c n ns kvs t l) : DGet H d (.str "turn") (some (.int t)) := by
  have h := DGet.k (k := kT) p.dc
  rw [p.vt] at h
  exact h
theorem Pen.getL {H d c n ns kvs t l} (p : Pen H d c n ns kvs t l) : DGet H d (.str "left") (some (.int l)) := by
  have h := DGet.k (k := kL) p.dc
  rw [p.vl] at h
  exact h
theorem Pen.small {H d c n ns kvs t l} (p : Pen H d c n ns kvs t l) : kvs.length < sizeLine := small1000 (by have := p.sz; omega)
def PenAt (H : Hp) (d c : Addr) (n : Int) (ns : List Int) : Prop := ∃ kvs t l, Pen H d c n ns kvs t l
theorem Pen.ne {H d c n ns kvs t l} (p : Pen H d c n ns kvs t l) : c ≠ d := ne_of p.cs p.dc (by intro z; cases z)
theorem PenAt.ne {H d c n ns} (p : PenAt H d c n ns) : c ≠ d := by
  obtain ⟨_, _, _, p⟩ := p
  exact p.ne
theorem Pen.keep {H H' d c n ns kvs t l} (p : Pen H d c n ns kvs t l) (h : Same H H') : Pen H' d c n ns kvs t l :=
  ⟨h _ _ p.dc, p.vc, p.vt, p.vl, p.t0, p.tn, p.sz, h _ _ p.cs, p.cl⟩
theorem PenAt.keep {H H' d c n ns} (p : PenAt H d c n ns) (h : Same H H') : PenAt H' d c n ns := by
  obtain ⟨_, _, _, p⟩ := p
  exact ⟨_, _, _, p.keep h⟩
theorem Pen.putT {H d c n ns kvs t l} (p : Pen H d c n ns kvs t l) : Pen (upd H d (.dK (putK kvs kT (.int (t + 1))))) d c (n + 1) ns (putK kvs kT (.int (t + 1))) (t + 1) l :=
  ⟨upd_same, by rw [valV_put, if_neg nCT]; exact p.vc, by rw [valV_put, if_pos rfl], by rw [valV_put, if_neg nLT]; exact p.vl, by have := p.t0; omega, by have := p.tn; omega, by rw [put_same_len p.vt]; exact p.sz, by rw [upd_ne p.ne]; exact p.cs, p.cl⟩
theorem Pen.putL {H d c n ns kvs t l} (p : Pen H d c n ns kvs t l) (l' : Int) : Pen (upd H d (.dK (putK kvs kL (.int l')))) d c n ns (putK kvs kL (.int l')) t l' :=
  ⟨upd_same, by rw [valV_put, if_neg nCL]; exact p.vc, by rw [valV_put, if_neg nTL]; exact p.vt, by rw [valV_put, if_pos rfl], p.t0, p.tn, by rw [put_same_len p.vl]; exact p.sz, by rw [upd_ne p.ne]; exact p.cs, p.cl⟩
theorem Pen.more {H d c n m ns kvs t l} (p : Pen H d c n ns kvs t l) (h : n ≤ m) : PenAt H d c m ns :=
  ⟨_, _, _, p.dc, p.vc, p.vt, p.vl, p.t0, Int.le_trans p.tn h, p.sz, p.cs, p.cl⟩
/-- all that was tracked is as it was, but at d -/
def But (d : Addr) (H H' : Hp) : Prop := ∀ b o, H b = some o → b ≠ d → H' b = some o
theorem But.refl {d : Addr} {H : Hp} : But d H H := fun _ _ h _ => h
theorem But.trans {d : Addr} {H H1 H2 : Hp} (a : But d H H1) (b : But d H1 H2) : But d H H2 := fun c o h n => b c o (a c o h n) n
theorem But.same {d : Addr} {H H' : Hp} (a : Same H H') : But d H H' := fun c o h _ => a c o h
theorem same_upd {H : Hp} {p : Addr} {o : HO} (hp : H p = none) : Same H (upd H p o) := fun b u e => by
  rw [upd_ne (ne_of_none e hp)]
  exact e
theorem but_upd {H : Hp} {d : Addr} {o : HO} : But d H (upd H d o) := fun b u e n => by
  rw [upd_ne n]
  exact e
theorem dp_ints {K : PySem.W.Frag} {H : Hp} : ∀ ns : List Int, DpAll K H (ns.map V.int) (ns.map PyData.int)
  | [] => .nil
  | n :: r => .cons (.int n) (dp_ints r)
theorem canLay_ints : ∀ ns : List Int, PyData.canLayAll0 (ns.map PyData.int) = true
  | [] => rfl
  | n :: r => by
    show (PyData.canLay0 (.int n) && PyData.canLayAll0 (r.map PyData.int)) = true
    rw [canLay_ints r]
    rfl
theorem depth_ints : ∀ ns : List Int, PyData.depthAll (ns.map PyData.int) = 0
  | [] => rfl
  | n :: r => by
    show max (PyData.depth (.int n)) (PyData.depthAll (r.map PyData.int)) = 0
    rw [depth_ints r]
    rfl
theorem shaped_ints (ns : List Int) : SeqAt.shaped (.list (ns.map PyData.int)) = true := by
  unfold SeqAt.shaped
  have h1 : PyData.canLay0 (.list (ns.map PyData.int)) = true := by
    unfold PyData.canLay0
    exact canLay_ints ns
  have h2 : PyData.depth (.list (ns.map PyData.int)) ≤ 64 := by
    unfold PyData.depth
    rw [depth_ints]
    decide
  rw [h1, decide_eq_true h2]
  rfl
/-! ### the promises -/
def spPen (K : PySem.W.Frag) : Sp := fun vs H Q _ => ∃ (a : Addr) (ns : List Int), vs = [.ref a] ∧ SqL K H a (ns.map V.int) ∧ ns.length ≤ 63 ∧
  ∀ (d c : Addr) (ms : List Int) (H' : Hp), PenAt H' d c 0 ms → Same H H' → H d = none → H c = none → Q (.ref d) H'
/-- draw: any number below the span -/
def spDraw : Sp := fun vs H Q _ => ∃ (d c : Addr) (n : Int) (ns : List Int) (span : Int), vs = [.ref d, .int span] ∧ PenAt H d c n ns ∧ n < 1000000 ∧ 1 ≤ span ∧ span < 1000000 ∧
  ∀ (r : Int) (H' : Hp), 0 ≤ r → r < span → PenAt H' d c (n + 1) ns → But d H H' → Q (.int r) H'
structure Txt (mg : Str → Option Value) : Prop where
  len : mg "len" = none
  int : mg "int" = none
  list : mg "list" = none
  abs : mg "abs" = none
def primesI : List Int := [2147483629, 2147483647, 2147483587, 2147483563, 2147483579]
theorem prime_at {k : Int} : ∃ p : Int, atI (primesI.map V.int) (k.fmod 5) = some (.int p) ∧ 2 ≤ p ∧ p < 2147483648 := by
  have h0 := Int.fmod_nonneg_of_pos k (b := 5) (by decide)
  have h1 := Int.fmod_lt_of_pos k (b := 5) (by decide)
  generalize k.fmod 5 = r at h0 h1
  have : r = 0 ∨ r = 1 ∨ r = 2 ∨ r = 3 ∨ r = 4 := by omega
  rcases this with rfl | rfl | rfl | rfl | rfl
  · exact ⟨2147483629, atI_nat (j := 0) rfl, by decide, by decide⟩
  · exact ⟨2147483647, atI_nat (j := 1) rfl, by decide, by decide⟩
  · exact ⟨2147483587, atI_nat (j := 2) rfl, by decide, by decide⟩
  · exact ⟨2147483563, atI_nat (j := 3) rfl, by decide, by decide⟩
  · exact ⟨2147483579, atI_nat (j := 4) rfl, by decide, by decide⟩
theorem fmod_in {a b : Int} (h : 0 < b) : 0 ≤ a.fmod b ∧ a.fmod b < b := ⟨Int.fmod_nonneg_of_pos a h, Int.fmod_lt_of_pos a h⟩
theorem at_fmod {α : Type} {xs : List α} {k : Int} (h : 0 < (xs.length : Int)) : ∃ (j : Nat) (v : α), k.fmod (xs.length : Int) = (j : Int) ∧ xs[j]? = some v := by
  obtain ⟨h0, h1⟩ := fmod_in (a := k) h
  refine ⟨(k.fmod xs.length).toNat, xs[(k.fmod xs.length).toNat]'(by omega), by omega, List.getElem?_eq_getElem _⟩
section
variable {P : Program} {w : World} {K : PySem.W.Frag} {mg : Str → Option Value} {base : Heap}
theorem scD : FnScope ["_law_pen_here", "_law_span", "_law_digit", "_law_turn", "_law_cell", "_law_primes", "_law_prime", "_law_drawn"] ["_law_pen_here", "_law_span"] (defScope sDraw) := ⟨rfl, rfl, rfl, by decide +kernel, rfl, by decide +kernel, by decide +kernel⟩
theorem ok_draw {f : Addr} {fd : FuncData} (F : Fun K "_law_draw" "_law_draw" sDraw f fd) (T : Txt mg) : FnOk P w K mg base CX0 1 f fd ["_law_pen_here", "_law_span"] spDraw := by
  refine F.ok scD (fun vs H Q E h => ?_) (fun cdv A outer s H vs Q E hr h => ?_)
  · obtain ⟨d, c, n, ns, span, rfl, _⟩ := h
    rfl
  · obtain ⟨d, c, n, ns, span, rfl, ⟨kvs, t, l, p⟩, hn, s1, s2, k⟩ := h
    have hu := hu_of hr
    have hu6 := hr.units
    have t0 := p.t0
    have tn := p.tn
    refine ⟨_, pss_cons (by exact (ps_if (pt_cmpR op_gt (pe_dget hu (pv 0) pe_str (fun _ _ => rfl)) pe_int (nomark _))
          (pss_cons (ps_set (i := 2) scD.nd rfl (.inl rfl) (pe_op op_modN (pe_callTy call_int1 (by rfl) T.int (by decide +kernel) (pa_cons (pe_dget hu (pv 0) pe_str (fun _ _ => rfl)) pa_nil)) (pv 1)))
          (pss_cons (ps_dput hu (pv 0) pe_str (pe_op op_fdivN (pe_dget hu (pv 0) pe_str (fun _ _ => rfl)) (pv 1)) rfl)
          (pss_one (ps_ret (pv 2))))) pss_nil)) (
      pss_cons (by exact (ps_set (i := 3) scD.nd rfl (.inl rfl) (pe_dget hu (pv 0) pe_str (fun _ _ => rfl)))) (
      pss_cons (by exact (ps_dput hu (pv 0) pe_str (pe_op op_add (pv 3) pe_int) rfl)) (
      pss_cons (by exact (ps_set (i := 4) scD.nd rfl (.inl rfl) (pe_op op_add (pe_op op_mul pe_int (pv 3)) pe_int))) (
      pss_cons (by exact (ps_if (pt_cmpR (op_neD hu6) (pe_dget hu (pv 0) pe_str (fun _ _ => rfl)) (pe_lst pa_nil) (nomark _))
          (pss_one (ps_set (i := 4) scD.nd rfl (.inl rfl) (pe_ix ix_list (pe_dget hu (pv 0) pe_str (fun _ _ => rfl))
            (pe_op op_modN (pe_callTy call_int1 (by rfl) T.int (by decide +kernel) (pa_cons (pv 3) pa_nil)) (pe_callB call_len_seq (by rfl) T.len PySem.boot_len (pa_cons (pe_dget hu (pv 0) pe_str (fun _ _ => rfl)) pa_nil))) (fun _ _ => rfl)))) pss_nil)) (
      pss_cons (by exact (ps_if (PW.pt (pw_and (pt_cmpR op_lt (pv 3) (pe_callB call_len_seq (by rfl) T.len PySem.boot_len (pa_cons (pe_dget hu (pv 0) pe_str (fun _ _ => rfl)) pa_nil)) (nomark _))
            (pw_and1 (pt_cmpR op_ge (pe_callB call_abs (by rfl) T.abs (by decide +kernel) (pa_cons (pv 4) pa_nil)) (pe_op op_pow pe_int pe_int) (nomark _)))))
          (pss_cons (ps_dput hu (pv 0) pe_str (pe_op op_fdivN (pe_op op_sub (pe_callB call_abs (by rfl) T.abs (by decide +kernel) (pa_cons (pv 4) pa_nil)) (pe_op op_pow pe_int pe_int)) (pv 1)) rfl)
          (pss_one (ps_ret (pe_op op_modN (pe_op op_sub (pe_callB call_abs (by rfl) T.abs (by decide +kernel) (pa_cons (pv 4) pa_nil)) (pe_op op_pow pe_int pe_int)) (pv 1))))) pss_nil)) (
      pss_cons (by exact (ps_set (i := 5) scD.nd rfl (.inl rfl) (pe_lst (pa_cons pe_int (pa_cons pe_int (pa_cons pe_int (pa_cons pe_int (pa_cons pe_int pa_nil)))))))) (
      pss_cons (by exact (ps_set (i := 6) scD.nd rfl (.inl rfl) (pe_ix ix_list (pv 5) (pe_op op_modN (pe_callTy call_int1 (by rfl) T.int (by decide +kernel) (pa_cons (pv 3) pa_nil)) pe_int) (fun _ _ => rfl)))) (
      pss_cons (by exact (ps_set (i := 7) scD.nd rfl (.inl rfl) (pe_op op_modN (pe_callTy call_int1 (by rfl) T.int (by decide +kernel) (pa_cons
          (pe_op op_add (pe_op op_add (pe_op op_mul (pe_op op_modN (pe_callTy call_int1 (by rfl) T.int (by decide +kernel) (pa_cons (pv 4) pa_nil)) (pv 6)) pe_int)
            (pe_op op_mul (pv 3) (pe_op op_add (pe_op op_mul pe_int (pv 3)) pe_int))) pe_int) pa_nil)) (pv 6)))) (
      pss_cons (by exact (ps_set (i := 7) scD.nd rfl (.inl rfl) (pe_op op_modN (pe_callTy call_int1 (by rfl) T.int (by decide +kernel) (pa_cons (pe_op op_mul (pv 7) (pe_op op_add (pv 7) pe_int)) pa_nil))
          (pe_ix ix_list (pv 5) (pe_op op_modN (pe_callTy call_int1 (by rfl) T.int (by decide +kernel) (pa_cons (pe_op op_add (pv 3) pe_int) pa_nil)) pe_int) (fun _ _ => rfl))))) (
      pss_one (by exact (ps_ret (pe_op op_modN (pe_callTy call_int1 (by rfl) T.int (by decide +kernel) (pa_cons (pe_op op_fdiv (pe_op op_mod (pe_callTy call_int1 (by rfl) T.int (by decide +kernel) (pa_cons
          (pe_op op_add (pe_op op_add (pe_op op_mul (pv 7) (pv 7)) (pe_op op_mul pe_int (pv 7))) (pv 3)) pa_nil)) pe_int) pe_int) pa_nil)) (pv 1)))))))))))))), ?_⟩
    have ns0 : span ≠ 0 := by omega
    have nsb : span.natAbs < 1073741824 := by omega
    -- left > 0
    refine ⟨_, rfl, d, _, rfl, p.getL, _, _, rfl, rfl, _, rfl, ?_⟩
    refine ite2 (fun _ => ?_) (fun _ => ?_)
    · refine ⟨_, rfl, d, _, rfl, p.getL, .inl ⟨_, rfl, _, rfl, _, _, rfl, rfl, ns0, ?_⟩⟩
      refine ⟨_, rfl, d, _, rfl, p.getL, _, rfl, _, _, rfl, rfl, ⟨ns0, nsb⟩, _, rfl, d, _, rfl, DPut.k (k := kL) p.dc p.small, ?_⟩
      refine ⟨_, rfl, ?_⟩
      obtain ⟨r0, r1⟩ := fmod_in (a := l) (b := span) (by omega)
      exact k _ _ r0 r1 ((p.putL _).more (by omega)) but_upd
    -- turn, turn + 1, cell
    · refine ⟨_, rfl, d, _, rfl, p.getT, ?_⟩
      refine ⟨_, rfl, _, _, rfl, rfl, _, rfl, d, _, rfl, DPut.k (k := kT) p.dc p.small, ?_⟩
      have p1 := p.putT
      have b1 : But d H (upd H d (.dK (putK kvs kT (.int (t + 1))))) := but_upd
      generalize upd H d (.dK (putK kvs kT (.int (t + 1)))) = H1 at p1 b1
      clear p
      generalize putK kvs kT (.int (t + 1)) = kvs1 at p1
      have t1 := p1.t0
      have t2 := p1.tn
      refine ⟨_, rfl, _, _, rfl, rfl, .inl ⟨by decide, by decide⟩, _, _, rfl, rfl, ?_⟩
      -- the cell
      refine ⟨_, rfl, d, _, rfl, p1.getC, (by show 0 ≤ sizeLine; decide), fun l0 hl0 => ?_⟩
      have p2 := p1.keep (same_upd (o := .lst []) hl0)
      have b2 : But d H (upd H1 l0 (.lst [])) := b1.trans (But.same (same_upd hl0))
      refine ⟨.list (ns.map PyData.int), .list [], .lst (SqL.of p2.cs) (dp_ints ns), .lst (SqL.of upd_same) .nil, shaped_ints ns, rfl, _, rfl, ?_⟩
      generalize upd H1 l0 (.lst []) = H2 at p2 b2
      refine ite2 (fun hne => ?ga) (fun _ => ?gb)
      case' ga =>
        have npos : 0 < ((ns.map V.int).length : Int) := by
          cases ns with
          | nil => exact absurd hne (by decide)
          | cons a r => rw [List.map_cons, List.length_cons]; omega
        obtain ⟨j, v, e1, e2⟩ := at_fmod (xs := ns.map V.int) (k := t) npos
        obtain ⟨z, rfl⟩ : ∃ z, v = V.int z := by
          rw [List.getElem?_map] at e2
          cases e : ns[j]? with
          | none => rw [e]
                at e2; cases e2
          | some z => rw [e] at e2; exact ⟨z, (Option.some.inj e2).symm⟩
        refine ⟨_, rfl, d, _, rfl, p2.getC, _, rfl, .inl ⟨_, rfl, _, rfl, d, _, rfl, p2.getC, c, _, rfl, .inl (SqL.of p2.cs), _, _, rfl, rfl, (by omega), c, _, _, _, rfl, rfl, SqL.of p2.cs, (by rw [e1]; exact atI_nat e2), ?_⟩⟩
      case' gb =>
        (try dsimp only)
        generalize 43 * t + 19 = z
      all_goals
        refine ⟨_, rfl, _, rfl, d, _, rfl, p2.getC, c, _, rfl, .inl (SqL.of p2.cs), _, _, rfl, rfl, _, rfl, ?_⟩
        refine ite2 (fun _ => ?_) (fun _ => ?_)
      case' ga.refine_1 =>
        refine ⟨_, rfl, _, rfl, _, _, rfl, rfl, ⟨by decide, by decide, by decide⟩, _, _, rfl, rfl, _, rfl, ?_⟩
        refine ite2 (fun _ => ?u1) (fun _ => ?u2)
      case' gb.refine_1 =>
        refine ⟨_, rfl, _, rfl, _, _, rfl, rfl, ⟨by decide, by decide, by decide⟩, _, _, rfl, rfl, _, rfl, ?_⟩
        refine ite2 (fun _ => ?v1) (fun _ => ?v2)
      case' u1 =>
        refine ⟨_, rfl, _, rfl, _, _, rfl, rfl, ⟨by decide, by decide, by decide⟩, _, _, rfl, rfl, _, rfl, _, _, rfl, rfl, ⟨ns0, nsb⟩, _, rfl, d, _, rfl, DPut.k (k := kL) p2.dc p2.small, ?_⟩
        refine ⟨_, rfl, _, rfl, _, _, rfl, rfl, ⟨by decide, by decide, by decide⟩, _, _, rfl, rfl, _, rfl, _, _, rfl, rfl, ns0, ?_⟩
        generalize (if z < 0 then -z else z) - (10 : Int) ^ (18 : Int).toNat = y
        obtain ⟨r0, r1⟩ := fmod_in (a := y) (b := span) (by omega)
        exact k _ _ r0 r1 ((p2.putL _).more (by omega)) (b2.trans but_upd)
      case' v1 =>
        refine ⟨_, rfl, _, rfl, _, _, rfl, rfl, ⟨by decide, by decide, by decide⟩, _, _, rfl, rfl, _, rfl, _, _, rfl, rfl, ⟨ns0, nsb⟩, _, rfl, d, _, rfl, DPut.k (k := kL) p2.dc p2.small, ?_⟩
        refine ⟨_, rfl, _, rfl, _, _, rfl, rfl, ⟨by decide, by decide, by decide⟩, _, _, rfl, rfl, _, rfl, _, _, rfl, rfl, ns0, ?_⟩
        obtain ⟨r0, r1⟩ := fmod_in (a := (if z < 0 then -z else z) - (10 : Int) ^ (18 : Int).toNat) (b := span) (by omega)
        exact k _ _ r0 r1 ((p2.putL _).more (by omega)) (b2.trans but_upd)
      all_goals
        obtain ⟨q, e1, q2, q3⟩ := prime_at (k := t)
        obtain ⟨q', e1', q2', q3'⟩ := prime_at (k := t + 2)
        refine ⟨(by show 5 ≤ sizeLine; decide), fun l1 hl1 => ?_⟩
        have p3 := p2.keep (same_upd (o := .lst (primesI.map V.int)) hl1)
        have b3 : But d H (upd H2 l1 (.lst (primesI.map V.int))) := b2.trans (But.same (same_upd hl1))
        have hp : (upd H2 l1 (.lst (primesI.map V.int))) l1 = some (.lst (primesI.map V.int)) := upd_same
        refine ⟨_, rfl, _, rfl, .inl ⟨_, rfl, _, _, rfl, rfl, (by show (5 : Int) ≠ 0; decide), l1, primesI.map V.int, _, _, rfl, rfl, SqL.of hp, e1, ?_⟩⟩
        obtain ⟨x0, x1⟩ := fmod_in (a := z) (b := q) (by omega)
        refine ⟨_, rfl, .inl ⟨_, rfl, _, rfl, _, _, rfl, rfl, (by omega), _, _, rfl, rfl, .inr ⟨by decide, by decide⟩, _, rfl, _, rfl, _, _, rfl, rfl, .inl ⟨by decide, by decide⟩, _, _, rfl, rfl, _, _, rfl, rfl, .inl ⟨by omega, by omega⟩,
          _, _, rfl, rfl, _, _, rfl, rfl, .inl ⟨_, rfl, _, rfl, _, _, rfl, rfl, (by omega), ?_⟩⟩⟩
        obtain ⟨y0, y1⟩ := fmod_in (a := z.fmod q * 39373 + t * (30011 * t + 8117) + 23) (b := q) (by omega)
        (try dsimp only)
        generalize (z.fmod q * 39373 + t * (30011 * t + 8117) + 23).fmod q = y' at y0 y1 ⊢
        refine ⟨_, rfl, _, rfl, _, _, rfl, rfl, _, _, rfl, rfl, .inl ⟨by omega, by omega⟩, .inl ⟨_, rfl, _, rfl, _, rfl, _, _, rfl, rfl, .inl ⟨_, rfl, _, _, rfl, rfl, (by show (5 : Int) ≠ 0; decide), l1, primesI.map V.int, _, _, rfl, rfl, SqL.of hp, e1', _, _, rfl, rfl, (by omega), ?_⟩⟩⟩
        obtain ⟨w0, w1⟩ := fmod_in (a := y' * (y' + 69621)) (b := q') (by omega)
        (try dsimp only)
        generalize (y' * (y' + 69621)).fmod q' = w at w0 w1 ⊢
        refine ⟨_, rfl, _, rfl, _, _, rfl, rfl, .inl ⟨by omega, by omega⟩, _, rfl, _, _, rfl, rfl, .inl ⟨by decide, by decide⟩, _, _, rfl, rfl, _, rfl, _, _, rfl, rfl, .inl ⟨_, rfl, _, _, rfl, rfl, (by show (0 : Int) < 2147483549; decide), _, _, rfl, rfl, ⟨by decide, by decide⟩, .inl ⟨_, rfl, _, rfl, _, _, rfl, rfl, ns0, ?_⟩⟩⟩
        (try dsimp only)
        generalize (w * w + 16807 * w + t) % 2147483549 / 64 = u
        obtain ⟨r0, r1⟩ := fmod_in (a := u) (b := span) (by omega)
        exact k _ _ r0 r1 (p3.more (by omega)) b3
end
theorem cutInts (ns : List Int) (lo hi : Option Int) : ∃ ms : List Int, cutV (ns.map V.int) lo hi = ms.map V.int ∧ ms.length ≤ ns.length := by
  unfold cutV
  rw [← List.map_drop, ← List.map_take]
  refine ⟨_, rfl, ?_⟩
  rw [List.length_take,
        List.length_drop]
  omega
section
variable {P : Program} {w : World} {K : PySem.W.Frag} {mg : Str → Option Value} {base : Heap}
theorem scN : FnScope ["_law_script"] ["_law_script"] (defScope sPen) := ⟨rfl, rfl, rfl, by decide +kernel, rfl, by decide +kernel, by decide +kernel⟩
theorem ok_pen {f : Addr} {fd : FuncData} (F : Fun K "_law_pen" "_law_pen" sPen f fd) (T : Txt mg) : FnOk P w K mg base CX0 1 f fd ["_law_script"] (spPen K) := by
  refine F.ok scN (fun vs H Q E h => ?_) (fun cdv A outer s H vs Q E hr h => ?_)
  · obtain ⟨a, ns, rfl, _⟩ := h
    rfl
  · obtain ⟨a, ns, rfl, hS, hl, k⟩ := h
    refine ⟨_, pss_one (by exact (ps_ret (pe_disp (pps_cons pe_str (pe_callTy call_list_of (by rfl) T.list (by decide +kernel) (pa_cons (pe_slice sl_list (pv 0) po_none (po_some pe_int)) pa_nil)) (pps_cons pe_str pe_int (pps_cons pe_str pe_int pps_nil))) (by rfl) (by rfl) (fun z => by cases z) (by decide)))), ?_⟩
    intro d nd
    have s1 : Same H (upd H d (.dK [])) := same_upd nd
    obtain ⟨ms, em, lm⟩ := cutInts ns none (some 63)
    refine ⟨_, rfl, _, rfl, a, _, rfl, s1.seq hS, fun p np => ?_⟩
    have s2 : Same (upd H d (.dK [])) (upd (upd H d (.dK [])) p (.lst (cutV (ns.map V.int) none (some 63)))) := same_upd np
    refine ⟨p, _, rfl, .inl (SqL.of upd_same), fun c nc => ?_⟩
    have s3 : Same (upd (upd H d (.dK [])) p (.lst (cutV (ns.map V.int) none (some 63)))) (upd (upd (upd H d (.dK [])) p (.lst (cutV (ns.map V.int) none (some 63)))) c (.lst (cutV (ns.map V.int) none (some 63)))) := same_upd nc
    have hd := (s2.trans s3) _ _ (upd_same (H := H) (a := d) (o := .dK []))
    refine ⟨hd, [(kC, .ref c), (kT, .int 0), (kL, .int 0)], rfl, by show 3 ≤ 15; decide, ?_⟩
    have ncd : c ≠ d := Ne.symm (ne_of_none (s2 _ _ upd_same) nc)
    refine k d c ms _ ⟨_, 0, 0, upd_same, ?_, ?_, ?_, Int.le_refl _, Int.le_refl _, ?_, ?_, by omega⟩ (fun b o e => ?_) nd ?_
    · show valV (putK (putK (putK [] kC (.ref c)) kT (.int 0)) kL (.int 0)) kC = _
      rw [valV_put, if_neg nCL, valV_put, if_neg nCT, valV_put, if_pos rfl]
    · show valV (putK (putK (putK [] kC (.ref c)) kT (.int 0)) kL (.int 0)) kT = _
      rw [valV_put, if_neg nTL, valV_put, if_pos rfl]
    · show valV (putK (putK (putK [] kC (.ref c)) kT (.int 0)) kL (.int 0)) kL = _
      rw [valV_put, if_pos rfl]
    · exact length_mergeK _ _
    · rw [upd_ne ncd, upd_same, em]
    · rw [upd_ne (ne_of_none e nd)]
      exact (s1.trans (s2.trans s3)) _ _ e
    · exact (s1.trans s2).free nc
end
end LA
end
section
set_option Elab.async false
set_option linter.all false
set_option maxRecDepth 100000
set_option maxHeartbeats 4100000
namespace XS
open PySem PySem.Spec PyProof.Rows L2
section
variable {X : Cx} {pins : List (Addr × Obj)} {σ : L2.St} {H : Hp} {s : Shared} {f : Addr} {fd : FuncData} {x qual : Str} {st : Stmt} {z : Str} {k : Nat}
/-- a def without parameters that hands back a written text: a token is out behind it -/
theorem run_lit {j : Nat} {p1 p2 : Pos} (F : Fun X.K x qual st f fd) (S : FnScope [] [] (defScope st)) (hb : defBody st = [.Return (some (.Constant (.str z) j p1)) p2]) (bind : ∀ s, BindsTo s fd ⟨[], []⟩ []) (nc : (defScope st).names = []) (hr : Room k X.A)
    (I : Inv X pins σ H s) : wpAny (model X.prog X.w) X.A (call (.ref f) []) (fun v s1 => 1 ≤ s1.toks ∧ ∃ t, v = .str z t ∧ Inv X pins σ H s1) X.xe s := by
  obtain ⟨oc, od, kV, doc, pm, an, cdv, ct, osl, rfl, lk, co⟩ := F.ex
  refine wpAny_call (Att.call_fn (binds := []) I.kIn I.nolimit lk co hr.depth (bind s) rfl (fun s₁ IC => ?_) S.co S.gen S.kind)
  obtain ⟨h₁, tk₁, rfl⟩ := IC.toInCall.same
  rw [hb]
  show wpAny _ _ (execs _ _) _ _ _
  refine wpAny_execs_cons (wpAny_Return_some (Calls.Constant_str ?_))
  refine ⟨Nat.succ_le_succ (Nat.zero_le _), tk₁, rfl, ?_⟩
  exact I.kept (t' := tk₁ + 1) fun b o e => IC.toInCall.keep b o e
/-- signs().replace(y, w) -/
theorem pe_litRepl {j j0 j1 : Nat} {y w : Str} {p p1 p2 q apos pos c0 c1 : Pos} (F : Fun X.K x qual st f fd) (S : FnScope [] [] (defScope st)) (hb : defBody st = [.Return (some (.Constant (.str z) j p1)) p2]) (bind : ∀ s, BindsTo s fd ⟨[], []⟩ []) (nc : (defScope st).names = []) (hr : Room k X.A)
    (gF : X.mg x = some (.ref f)) (hyz : (y == w) = false) (hl : z.length + (z.length + 1) * w.length ≤ 16777216) (hg : Gl X x := by rfl) (hdb : (x == ("__debug__" : Str)) = false := by decide)
    (hst : starEach [.Constant (.str y) j0 c0, .Constant (.str w) j1 c1] X.env = [(false, eval (.Constant (.str y) j0 c0) X.env), (false, eval (.Constant (.str w) j1 c1) X.env)] := by rfl)
    (hbase : attributeBase (.Call (.Name x p) [] [] q) "replace" X.env (eval (.Call (.Name x p) [] [] q) X.env) = eval (.Call (.Name x p) [] [] q) X.env := by rfl) (hline : (apos.endLine == pos.line) = true := by rfl) :
    PE X (.Call (.Attribute (.Call (.Name x p) [] [] q) "replace" apos) [.Constant (.str y) j0 c0, .Constant (.str w) j1 c1] [] pos) (tC (.str (Txt.replace z y w))) := by
  refine ⟨fun pins s σ H Q I h => ?_⟩
  refine PySem.Call_method2 hbase hst hline ?_
  refine wpAny_Call_Name_kw (ld_glob I hg gF ?_ hdb)
  refine PySem.W.callWith_K0 I.kIn F.kp ?_
  refine wpAny_mono (run_lit F S hb bind nc hr I) (fun v s1 hv => ?_) fun _ _ e => e
  obtain ⟨one, tx, rfl, I1⟩ := hv
  refine ⟨"str", _, PySem.F.plainAttrs_str, PySem.F.slot_str_replace, PySem.F.type_str_replace, typeIs_str _ _ _, (fun _ e => nomatch e), Calls.callWith_builtin rfl (Calls.evalArgs_plain (Calls.spliced_cons ?_))⟩
  refine Calls.Constant_str (Calls.spliced_cons (Calls.Constant_str (Calls.spliced_nil ?_)))
  refine PySem.SC.replace (by show s1.toks ≠ 0; omega) (by show s1.toks + 1 ≠ 0; omega) (by show s1.toks ≠ s1.toks + 1; omega) hyz hl fun t' k => ?_
  exact ⟨.str (Txt.replace z y w), H, I1.tok k, ⟨t', rfl⟩, h⟩
end
/-! ### texts by their codes -/
/-- a text's codes -/
abbrev cod (z : Str) : List Nat := z.cps.toList
theorem len_cod (z : Str) : (cod z).length = z.length := by
  show z.cps.toList.length = z.cps.size
  simp
theorem cod_ext {a b : Str} (h : cod a = cod b) : a = b := by
  obtain ⟨⟨x⟩⟩ := a
  obtain ⟨⟨y⟩⟩ := b
  have h' : x = y := h
  rw [h']
/-- the text of one sign -/
def sg (c : Nat) : Str := ⟨#[c]⟩
theorem joinL_sg : ∀ cs : List Nat, TL.joinL [] (cs.map fun c => [c]) = cs := by
  intro cs
  induction cs with
  | nil => rfl
  | cons c r ih =>
    cases r with
    | nil => rfl
    | cons d r' =>
      show [c] ++ [] ++ TL.joinL [] ((d :: r').map fun c => [c]) = c :: d :: r'
      rw [ih]
      rfl
theorem join_sg (cs : List Nat) : cod (Txt.join ⟨#[]⟩ (cs.map sg)) = cs := by
  have h := SX.join_S [] (cs.map fun c => [c])
  rw [joinL_sg] at h
  have e : (cs.map fun c => [c]).map SX.S = cs.map sg := by
    rw [List.map_map]
    rfl
  rw [e] at h
  show (Txt.join (SX.S []) (cs.map sg)).cps.toList = cs
  rw [h]
theorem sg_inj {c d : Nat} (h : sg c = sg d) : c = d := by
  have e : #[c] = #[d] := congrArg Str.cps h
  simpa using e
end XS
end
section
set_option Elab.async false
set_option linter.all false
set_option maxRecDepth 100000
set_option maxHeartbeats 4100000
namespace LA
open PySem L2 XS
abbrev sSigns : Stmt := top 39
abbrev sFew : Stmt := top 42
abbrev sRow : Stmt := top 43
def Lt (c : Nat) : Prop := 32 ≤ c ∧ c ≤ 126 ∧ c ≠ 37
instance : DecidablePred Lt := fun c => inferInstanceAs (Decidable (_ ∧ _ ∧ _))
/-- two or three unlike letters -/
structure Sgn (z : Str) : Prop where
  lets : ∀ c ∈ cod z, Lt c
  nd : (cod z).Nodup
  two : 2 ≤ z.length
  three : z.length ≤ 3
  nq : ∀ c ∈ cod z, c ≠ 113
def sgsZ : Str := " !\"#$&'()*+,-./0123456789:;<=>?@ABCDEFGHIJKLMNOPQRSTUVWXYZ[\\]^_`abcdefghijklmnopqrstuvwxyz{|}~"
theorem few_lets : ∀ c ∈ cod (Txt.replace sgsZ "q" ""), Lt c := by decide +kernel
theorem few_nq : ∀ c ∈ cod (Txt.replace sgsZ "q" ""), c ≠ 113 := by decide +kernel
theorem few_len : (Txt.replace sgsZ "q" "").length = 93 := by decide +kernel
theorem sg_str (c : Nat) : (V.str (sg c)) = V.str ⟨#[c]⟩ := rfl
theorem len_sg (c : Nat) : (sg c).length = 1 := rfl
section
variable {P : Program} {w : World} {K : PySem.W.Frag} {mg : Str → Option Value} {base : Heap}
/-- pick: of a list, or of a text -/
def spPick : Sp := fun vs H Q _ => ∃ (d c : Addr) (n : Int) (ns : List Int) (o : V), vs = [.ref d, o] ∧ PenAt H d c n ns ∧ n < 1000000 ∧
  ((∃ (l : Addr) (xs : List V), o = .ref l ∧ H l = some (.lst xs) ∧ 0 < xs.length ∧ xs.length < 1000000 ∧ ∀ (v : V) (H' : Hp), v ∈ xs → PenAt H' d c (n + 1) ns → But d H H' → Q v H') ∨
   (∃ (z : Str), o = .str z ∧ 0 < z.length ∧ z.length < 1000000 ∧ ∀ (k : Nat) (H' : Hp), k ∈ cod z → PenAt H' d c (n + 1) ns → But d H H' → Q (.str (sg k)) H'))
theorem scP : FnScope ["_law_pen_here", "_law_options"] ["_law_pen_here", "_law_options"] (defScope sPick) := ⟨rfl, rfl, rfl, by decide +kernel, rfl, by decide +kernel, by decide +kernel⟩
theorem ok_pick {f fD : Addr} {fd fdD : FuncData} (F : Fun K "_law_pick" "_law_pick" sPick f fd) (T : Txt mg) (GD : FnOk P w K mg base CX0 1 fD fdD ["_law_pen_here", "_law_span"] spDraw) (mD : mg "_law_draw" = some (.ref fD)) (kD : PySem.W.keepIn K (.ref fD) = true) (bD : Binds K fdD ["_law_pen_here", "_law_span"] []) :
    FnOk P w K mg base CX0 2 f fd ["_law_pen_here", "_law_options"] spPick := by
  refine F.ok scP (fun vs H Q E h => ?_) (fun cdv A outer s H vs Q E hr h => ?_)
  · obtain ⟨d, c, n, ns, o, rfl, _⟩ := h
    rfl
  · obtain ⟨d, c, n, ns, o, rfl, pen, hn, k⟩ := h
    refine ⟨_, pss_one (by exact (ps_ret (pe_ix ix_seq (pv 1) (pe_call GD hr rfl mD kD bD .nil pass0 (pa_cons (pv 0) (pa_cons (pe_callB call_len (by rfl) T.len PySem.boot_len (pa_cons (pv 1) pa_nil)) pa_nil))) (fun _ _ => rfl)))), ?_⟩
    rcases k with ⟨l, xs, rfl, hl, h0, h1, k⟩ | ⟨z, rfl, h0, h1, k⟩
    · have nld : l ≠ d := by
        obtain ⟨_, _, _, p⟩ := pen
        exact ne_of hl p.dc (by intro z; cases z)
      refine ⟨_, rfl, _, rfl, _, rfl, _, xs.length, rfl, .inl ⟨_, SqL.of hl, rfl⟩, ?_⟩
      refine ⟨d, c, n, ns, (xs.length : Int), rfl, pen, hn, by omega, by omega, fun r H' r0 r1 pen' but => ?_⟩
      obtain ⟨j, rfl⟩ := Int.eq_ofNat_of_zero_le r0
      have hj : j < xs.length := by omega
      refine .inl ⟨l, xs, _, xs[j], rfl, rfl, SqL.of (but _ _ hl nld), atI_nat (List.getElem?_eq_getElem hj), ?_⟩
      exact k _ _ (List.getElem_mem hj) pen' but
    · refine ⟨_, rfl, _, rfl, _, rfl, _, z.length, rfl, ⟨Nat.le_trans (Nat.le_of_lt h1) (by decide), rfl⟩, ?_⟩
      refine ⟨d, c, n, ns, (z.length : Int), rfl, pen, hn, by omega, by omega, fun r H' r0 r1 pen' but => ?_⟩
      obtain ⟨j, rfl⟩ := Int.eq_ofNat_of_zero_le r0
      have hj : j < (cod z).length := by rw [len_cod]; omega
      refine .inr (.inr ⟨z, _, (cod z)[j], rfl, rfl, Nat.le_trans (Nat.le_of_lt h1) (by decide), atI_nat (List.getElem?_eq_getElem hj), ?_⟩)
      exact k _ _ (List.getElem_mem hj) pen' but
structure PickAt (P : Program) (w : World) (K : PySem.W.Frag) (mg : Str → Option Value) (base : Heap) (f : Addr) (fd : FuncData) : Prop where
  ok : FnOk P w K mg base CX0 2 f fd ["_law_pen_here", "_law_options"] spPick
  m : mg "_law_pick" = some (.ref f)
  k : PySem.W.keepIn K (.ref f) = true
  b : Binds K fd ["_law_pen_here", "_law_options"] []
/-- few: two or three unlike letters -/
def spFew : Sp := fun vs H Q _ => ∃ (d c : Addr) (n : Int) (ns : List Int), vs = [.ref d] ∧ PenAt H d c n ns ∧ n + 4 < 1000000 ∧
  ∀ (z : Str) (H' : Hp), Sgn z → PenAt H' d c (n + 4) ns → But d H H' → Q (.str z) H'
theorem scF : FnScope ["_law_pen_here", "_law_some_here", "_law_rare", "_law_k"] ["_law_pen_here"] (defScope sFew) := ⟨rfl, rfl, rfl, by decide +kernel, rfl, by decide +kernel, by decide +kernel⟩
theorem scG : FnScope [] [] (defScope sSigns) := ⟨rfl, rfl, rfl, by decide +kernel, rfl, by decide +kernel, by decide +kernel⟩
def cs (l : List Nat) : List V := l.map fun c => V.str (sg c)
theorem cs_flat (l : List Nat) : (cs l).all flatV = true := by
  simp [cs, flatV]
theorem cs_in (c : Nat) (l : List Nat) : inV (.str (sg c)) (cs l) = decide (c ∈ l) := by
  induction l with
  | nil => rfl
  | cons a r ih =>
    have h : inV (.str (sg c)) (cs (a :: r)) = (eqV (.str (sg a)) (.str (sg c)) || inV (.str (sg c)) (cs r)) := rfl
    rw [h, ih]
    show ((sg a == sg c) || _) = _
    by_cases e : a = c
    · subst e
      simp
    · have : (sg a == sg c) = false := by
        rw [beq_eq_false_iff_ne]
        exact fun z => e (sg_inj z)
      rw [this, Bool.false_or]
      have e' : ¬ c = a := fun z => e z.symm
      simp [e']
theorem cs_cut (l : List Nat) (i : Nat) : cutV (cs l) none (some (i : Int)) = cs (l.take i) := by
  unfold cutV cs
  rw [HT.sIx_nat, HT.sIx_none, List.drop_zero, List.length_map, Nat.sub_zero, ← List.map_take]
  congr 1
  rw [List.take_eq_take_iff]
  omega
theorem cs_strs (l : List Nat) : cs l = (l.map sg).map V.str := by
  unfold cs
  rw [List.map_map]
  rfl
theorem sum_sg (l : List Nat) : ((l.map sg).map (·.length)).sum = l.length := by
  induction l with
  | nil => rfl
  | cons a r ih =>
    rw [List.map_cons, List.map_cons, List.sum_cons, ih, len_sg, List.length_cons]
    omega
theorem sgn_some : ∀ z ∈ (["ab", "abc", "a ", "x~", "01", "\"\\"] : List Str), Sgn z := by
  intro z hz
  simp only [List.mem_cons, List.not_mem_nil, or_false] at hz
  rcases hz with rfl | rfl | rfl | rfl | rfl | rfl <;> exact ⟨by decide +kernel, by decide +kernel, by decide +kernel, by decide +kernel, by decide +kernel⟩
theorem yz_nq : ∀ c ∈ cod "yz", c ≠ 113 := by decide +kernel
theorem yz_lets : ∀ c ∈ cod "yz", Lt c ∧ c ≠ 40 := by decide +kernel
theorem par_is : ∀ c ∈ cod "(", c = 40 := by decide +kernel
theorem PenAt.put {H : Hp} {d c D : Addr} {n : Int} {ns : List Int} {o : HO} (p : PenAt H d c n ns) (h1 : D ≠ d) (h2 : D ≠ c) : PenAt (upd H D o) d c n ns := by
  obtain ⟨kvs, t, l, q⟩ := p
  exact ⟨kvs, t, l, by rw [upd_ne h1.symm]; exact q.dc, q.vc, q.vt, q.vl, q.t0, q.tn, q.sz, by rw [upd_ne h2.symm]; exact q.cs, q.cl⟩
theorem PenAt.fresh {H : Hp} {d c D : Addr} {n : Int} {ns : List Int} (p : PenAt H d c n ns) (h : H D = none) : D ≠ d ∧ D ≠ c := by
  obtain ⟨kvs, t, l, q⟩ := p
  exact ⟨(ne_of_none q.dc h).symm, (ne_of_none q.cs h).symm⟩
theorem PenAt.n0 {H : Hp} {d c : Addr} {n : Int} {ns : List Int} (p : PenAt H d c n ns) : 0 ≤ n := by
  obtain ⟨kvs, t, l, q⟩ := p
  exact Int.le_trans q.t0 q.tn
theorem But.none {d D : Addr} {H G : Hp} (b : But d H G) (n : D ≠ d) (h : G D = Option.none) : H D = Option.none := by
  cases e : H D with
  | none => rfl
  | some o => exact absurd ((b _ _ e n).symm.trans h) (by simp)
theorem But.put {d D : Addr} {H G : Hp} {o : HO} (b : But d H G) (h : H D = Option.none) : But d H (upd G D o) := fun c u e n => by
  rw [upd_ne (ne_of_none e h)]
  exact b c u e n
theorem ok_few {f fS fP : Addr} {fd fdS fdP : FuncData} (F : Fun K "_law_few" "_law_few" sFew f fd) (T : Txt mg) (mR : mg "range" = none) (M : PickAt P w K mg base fP fdP) (FS : Fun K "_law_signs" "_law_signs" sSigns fS fdS) (bS : ∀ s, BindsTo s fdS ⟨[], []⟩ []) (mS : mg "_law_signs" = some (.ref fS)) :
    FnOk P w K mg base CX0 3 f fd ["_law_pen_here"] spFew := by
  refine F.ok scF (fun vs H Q E h => ?_) (fun cdv A outer s H vs Q E hr h => ?_)
  · obtain ⟨d, c, n, ns, rfl, _⟩ := h
    rfl
  · obtain ⟨d, c, n, ns, rfl, pen, hn, k⟩ := h
    have hr2 : Room 2 _ := hr.mono (by decide)
    have hr1 : Room 1 _ := hr.mono (by decide)
    refine ⟨_, pss_cons (by exact (ps_set (i := 1) scF.nd rfl (Or.inr rfl) (pe_lst (pa_cons (pe_call M.ok hr2 rfl M.m M.k M.b .nil pass0 (pa_cons (pv 0) (pa_cons (XS.pe_litRepl FS scG rfl bS rfl hr1 mS (by decide +kernel) (by decide +kernel)) pa_nil))) (pa_cons (pe_call M.ok hr2 rfl M.m M.k M.b .nil pass0 (pa_cons (pv 0) (pa_cons pe_str pa_nil))) (pa_cons (pe_call M.ok hr2 rfl M.m M.k M.b .nil pass0 (pa_cons (pv 0) (pa_cons pe_str pa_nil))) pa_nil)))))) (
      pss_cons (by exact (ps_set (i := 2) scF.nd rfl (.inl rfl) (pe_join pe_str (pe_lc (own := [("_law_k", 3)]) (g := gName 3) (tt := tTest (tOp (rIn K true) (tOp (rIxL K) (tVar 1) (tVar 3)) (tSl (rSlL K) (tVar 1) tNoPart (tPart (tVar 3))))) (te := tOp (rIxL K) (tVar 1) (tVar 3)) rfl scF.nd (pi_range1 rfl mR (pa_cons pe_int pa_nil))
        (blkOk_by (N := ["_law_pen_here", "_law_some_here", "_law_rare", "_law_k"]) (sc := defScope sFew) (by decide +kernel))
        (fun _ _ _ _ _ => by exact (pg_name (i := 3) scF.nd rfl (Or.inl rfl)))
        (fun _ _ _ _ _ => by exact (pts_one (pt_cmpR op_notIn_seq (pe_ix ix_list (pv 1) (pv 3) (fun _ _ => rfl)) (pe_slice sl_list (pv 1) po_none (po_some (pv 3))) (by rfl))))
        (fun _ _ _ _ _ => by exact (pe_ix ix_list (pv 1) (pv 3) (fun _ _ => rfl))))))) (
      pss_one (by exact (ps_ret (pe_call M.ok hr2 rfl M.m M.k M.b .nil pass0 (pa_cons (pv 0) (pa_cons (pe_lst (pa_cons pe_str (pa_cons pe_str (pa_cons pe_str (pa_cons pe_str (pa_cons pe_str (pa_cons pe_str (pa_cons pe_str (pa_cons pe_str (pa_cons (pv 2) pa_nil)))))))))) pa_nil))))))), ?_⟩
    refine ⟨_, rfl, d, c, n, ns, _, rfl, pen, by omega, .inr ⟨_, rfl, (by show 0 < (Txt.replace sgsZ "q" "").length; rw [few_len]; decide), (by show (Txt.replace sgsZ "q" "").length < 1000000; rw [few_len]; decide), fun a H1 ha pen1 b1 => ?_⟩⟩
    refine ⟨_, rfl, d, c, n + 1, ns, _, rfl, pen1, by omega, .inr ⟨_, rfl, (by decide +kernel), (by decide +kernel), fun b H2 hb pen2 b2 => ?_⟩⟩
    refine ⟨_, rfl, d, c, n + 1 + 1, ns, _, rfl, pen2, by omega, .inr ⟨_, rfl, (by decide +kernel), (by decide +kernel), fun e H3 he pen3 b3 => ?_⟩⟩
    obtain ⟨lb, nb⟩ := yz_lets b hb
    have la := few_lets a ha
    have qa := few_nq a ha
    have qb := yz_nq b hb
    have le := par_is e he
    subst le
    refine ⟨(by show 3 ≤ sizeLine; decide), fun L nL => ?_⟩
    have bb : But d H (upd H3 L (.lst (cs [a, b, 40]))) := ((b1.trans b2).trans b3).trans (But.same (same_upd nL))
    have pen4 := pen3.keep (same_upd (o := .lst (cs [a, b, 40])) nL)
    have hL : (upd H3 L (.lst (cs [a, b, 40]))) L = some (.lst (cs [a, b, 40])) := upd_same
    refine ⟨⟨_, rfl⟩, ?_⟩
    refine ⟨3, rfl, by decide, by decide, fun D nD => ?_⟩
    have nLD : L ≠ D := ne_of_none hL nD
    obtain ⟨nDd, nDc⟩ := pen4.fresh nD
    have nH : H D = none := bb.none nDd nD
    have hb0 : ∀ i, i < 3 → ∃ x, [a, b, 40][i]? = some x := fun i hi => ⟨[a, b, 40][i], List.getElem?_eq_getElem hi⟩
    refine lc_range (fun i G => ∃ ds : List Nat, G D = some (.lst (cs ds)) ∧ ds.Nodup ∧ (∀ x, x ∈ ds ↔ x ∈ [a, b, 40].take i) ∧ ds.length ≤ i ∧ G L = some (.lst (cs [a, b, 40])) ∧ PenAt G d c (n + 1 + 1 + 1) ns ∧ But d H G)
      ⟨[], upd_same, List.nodup_nil, fun x => by simp, Nat.le_refl _, (same_upd nD) _ _ hL, pen4.keep (same_upd nD), bb.trans (But.same (same_upd nD))⟩ (fun i G hi p => ?_) (fun G p => ?_)
    · obtain ⟨ds, pD, nd, mem, len, pL, pP, pB⟩ := p
      obtain ⟨x, hx⟩ := hb0 i hi
      have hx' : (cs [a, b, 40])[i]? = some (V.str (sg x)) := by
        unfold cs
        rw [List.getElem?_map, hx]
        rfl
      refine ⟨rfl, ?_⟩
      refine ⟨_, rfl, _, rfl, L, _, _, _, rfl, rfl, SqL.of pL, (by rw [Int.zero_add]; exact atI_nat hx'), ?_⟩
      refine ⟨_, rfl, _, rfl, _, rfl, L, _, rfl, SqL.of pL, fun S nS => ?_⟩
      rw [Int.zero_add, cs_cut]
      refine ⟨S, cs ([a, b, 40].take i), rfl, .inl (SqL.of upd_same), rfl, cs_flat _, _, rfl, ?_⟩
      rw [if_pos rfl, cs_in]
      have sm := fun o => same_upd (o := o) nS
      have tk : [a, b, 40].take (i + 1) = [a, b, 40].take i ++ [x] := by rw [List.take_succ, hx]; rfl
      by_cases mx : x ∈ [a, b, 40].take i
      · rw [decide_eq_true mx]
        refine iteF ⟨ds, sm _ _ _ pD, nd, fun y => ?_, by omega, sm _ _ _ pL, pP.keep (sm _), pB.trans (But.same (sm _))⟩
        rw [mem, tk, List.mem_append, List.mem_singleton]
        exact ⟨.inl, fun h => h.elim id fun e => e ▸ mx⟩
      · rw [decide_eq_false mx]
        refine iteT ?_
        refine ⟨_, rfl, _, rfl, L, _, _, _, rfl, rfl, SqL.of (sm _ _ _ pL), (atI_nat hx'), ?_⟩
        refine ⟨_, sm _ _ _ pD, Nat.lt_of_le_of_lt (by unfold cs; rw [List.length_map]; omega : _ ≤ 3) (by decide), ds ++ [x], ?_, ?_, ?_, ?_, ?_, ?_, ?_⟩
        · unfold cs
          rw [List.map_append]
          exact upd_same
        · rw [List.nodup_append]
          refine ⟨nd, List.nodup_cons.mpr ⟨by simp, List.nodup_nil⟩, fun y hy z hz => ?_⟩
          rw [List.mem_singleton] at hz
          subst hz
          exact fun e => mx (e ▸ (mem y).mp hy)
        · intro y
          rw [List.mem_append, mem, tk, List.mem_append]
        · rw [List.length_append]
          exact Nat.add_le_add len (Nat.le_refl 1)
        · rw [upd_ne nLD]
          exact sm _ _ _ pL
        · exact (pP.keep (sm _)).put nDd nDc
        · exact (pB.trans (But.same (sm _))).put nH
    · obtain ⟨ds, pD, nd, mem, len, pL, pP, pB⟩ := p
      replace mem : ∀ x, x ∈ ds ↔ x ∈ [a, b, 40] := mem
      replace len : ds.length ≤ 3 := len
      have hl : 2 ≤ ds.length := by
        rcases ds with _ | ⟨x, _ | ⟨y, r⟩⟩
        · exact absurd ((mem 40).mpr (by simp)) (by simp)
        · have h1 := (mem 40).mpr (by simp)
          have h2 := (mem b).mpr (by simp)
          rw [List.mem_singleton] at h1 h2
          exact absurd (h2.trans h1.symm) nb
        · simp
      refine ⟨_, D, ds.map sg, rfl, rfl, .inl (by rw [← cs_strs]; exact SqL.of pD), (by rw [sum_sg, List.length_map]; show ds.length + ds.length * 0 ≤ 16777216; omega), ?_⟩
      have ej : cod (Txt.join "" (ds.map sg)) = ds := join_sg ds
      have sj : Sgn (Txt.join "" (ds.map sg)) := by
        refine ⟨?_, ?_, ?_, ?_, ?_⟩
        · rw [ej]
          intro x hx
          have h := (mem x).mp hx
          simp only [List.mem_cons, List.not_mem_nil, or_false] at h
          rcases h with rfl | rfl | rfl
          · exact la
          · exact lb
          · decide
        · rw [ej]
          exact nd
        · rw [← len_cod, ej]
          exact hl
        · rw [← len_cod, ej]
          exact len
        · rw [ej]
          intro x hx
          have h := (mem x).mp hx
          simp only [List.mem_cons, List.not_mem_nil, or_false] at h
          rcases h with rfl | rfl | rfl
          · exact qa
          · exact qb
          · decide
      generalize Txt.join "" (ds.map sg) = rare at sj
      refine ⟨_, rfl, _, rfl, (by show 9 ≤ sizeLine; decide), fun N nN => ?_⟩
      have sN := same_upd (o := .lst [.str "ab", .str "ab", .str "abc", .str "abc", .str "a ", .str "x~", .str "01", .str "\"\\", .str rare]) nN
      refine ⟨d, c, n + 1 + 1 + 1, ns, _, rfl, pP.keep sN, by omega, .inl ⟨N, _, rfl, upd_same, (by show 0 < 9; decide), (by show 9 < 1000000; decide), fun v H' hv pen5 b5 => ?_⟩⟩
      have hs : ∃ z, v = .str z ∧ Sgn z := by
        simp only [List.mem_cons, List.not_mem_nil, or_false] at hv
        rcases hv with rfl | rfl | rfl | rfl | rfl | rfl | rfl | rfl | rfl
        all_goals first | exact ⟨_, rfl, sj⟩ | exact ⟨_, rfl, sgn_some _ (by simp)⟩
      obtain ⟨z, rfl, sz⟩ := hs
      exact k z H' sz (by have e : n + 1 + 1 + 1 + 1 = n + 4 := by omega
                          rw [← e]; exact pen5) ((pB.trans (But.same sN)).trans b5)
/-- row: a line of the letters -/
def spRow : Sp := fun vs H Q _ => ∃ (d c : Addr) (n : Int) (ns : List Int) (z : Str) (a b : Int), vs = [.ref d, .str z, .int a, .int b] ∧ PenAt H d c n ns ∧ n + 1 + b < 1000000 ∧ 0 < z.length ∧ z.length < 1000000 ∧ 0 ≤ a ∧ a ≤ b ∧
  ∀ (y : Str) (H' : Hp), (∀ c ∈ cod y, c ∈ cod z) → a ≤ y.length → (y.length : Int) ≤ b → PenAt H' d c (n + 1 + b) ns → But d H H' → Q (.str y) H'
theorem scR : FnScope ["_law_pen_here", "_law_signs_here", "_law_least", "_law_most_letters", "_law_span", "_law_k"] ["_law_pen_here", "_law_signs_here", "_law_least", "_law_most_letters"] (defScope sRow) := ⟨rfl, rfl, rfl, by decide +kernel, rfl, by decide +kernel, by decide +kernel⟩
theorem ok_row {f fD fP : Addr} {fd fdD fdP : FuncData} (F : Fun K "_law_row" "_law_row" sRow f fd) (T : Txt mg) (mR : mg "range" = none) (M : PickAt P w K mg base fP fdP) (GD : FnOk P w K mg base CX0 1 fD fdD ["_law_pen_here", "_law_span"] spDraw) (mD : mg "_law_draw" = some (.ref fD)) (kD : PySem.W.keepIn K (.ref fD) = true) (bD : Binds K fdD ["_law_pen_here", "_law_span"] []) :
    FnOk P w K mg base CX0 3 f fd ["_law_pen_here", "_law_signs_here", "_law_least", "_law_most_letters"] spRow := by
  refine F.ok scR (fun vs H Q E h => ?_) (fun cdv A outer s H vs Q E hr h => ?_)
  · obtain ⟨d, c, n, ns, z, a, b, rfl, _⟩ := h
    rfl
  · obtain ⟨d, c, n, ns, z, a, b, rfl, pen, hn, z0, z1, ha, hb, k⟩ := h
    have hr2 : Room 2 _ := hr.mono (by decide)
    have hr1 : Room 1 _ := hr.mono (by decide)
    refine ⟨_, pss_cons (by exact (ps_set (i := 4) scR.nd rfl (.inl rfl) (pe_op op_add (pv 2) (pe_call GD hr1 rfl mD kD bD .nil pass0 (pa_cons (pv 0) (pa_cons (pe_op op_add (pe_op op_sub (pv 3) (pv 2)) pe_int) pa_nil)))))) (
      pss_one (by exact (ps_ret (pe_join pe_str (pe_lc (own := [("_law_k", 5)]) (g := gName 5) (tt := tYes) (te := tCall spPick [] (fun _ _ _ => False) (tCons (tVar 0) (tCons (tVar 1) tNil))) rfl scR.nd (pi_range1 rfl mR (pa_cons (pv 4) pa_nil))
        (blkOk_by (N := ["_law_pen_here", "_law_signs_here", "_law_least", "_law_most_letters", "_law_span", "_law_k"]) (sc := defScope sRow) (by decide +kernel))
        (fun _ _ _ _ _ => by exact (pg_name (i := 5) scR.nd rfl (Or.inl rfl)))
        (fun _ _ _ _ _ => by exact pts_nil)
        (fun _ _ _ _ _ => by exact (pe_call M.ok hr2 rfl M.m M.k M.b .nil pass0 (pa_cons (pv 0) (pa_cons (pv 1) pa_nil))))))))), ?_⟩
    refine ⟨_, rfl, _, rfl, _, rfl, _, rfl, _, _, rfl, rfl, _, _, rfl, rfl, ?_⟩
    have n0 := pen.n0
    refine ⟨d, c, n, ns, _, rfl, pen, by omega, by omega, by omega, fun r H1 r0 r1 pen1 b1 => ?_⟩
    refine ⟨_, _, rfl, rfl, ⟨_, rfl⟩, ?_⟩
    refine ⟨_, rfl, a + r, rfl, by omega, by omega, fun D nD => ?_⟩
    obtain ⟨nDd, nDc⟩ := pen1.fresh nD
    have nH : H D = none := b1.none nDd nD
    refine lc_range (fun i G => ∃ ds : List Nat, G D = some (.lst (cs ds)) ∧ (∀ x ∈ ds, x ∈ cod z) ∧ ds.length = i ∧ PenAt G d c (n + 1 + i) ns ∧ But d H G)
      ⟨[], upd_same, (fun x hx => absurd hx (by simp)), rfl, (show PenAt _ d c (n + 1 + (0 : Int)) ns from (Int.add_zero (n + 1)).symm ▸ pen1.put nDd nDc), b1.put nH⟩ (fun i G hi p => ?_) (fun G p => ?_)
    · obtain ⟨ds, pD, mem, len, pP, pB⟩ := p
      refine ⟨rfl, ?_⟩
      dsimp only [tYes]
      rw [if_pos rfl]
      refine ⟨_, rfl, _, rfl, d, c, n + 1 + i, ns, _, rfl, pP, by omega, .inr ⟨z, rfl, z0, z1, fun x G1 hx pP1 b2 => ?_⟩⟩
      refine ⟨_, b2 _ _ pD nDd, Nat.lt_of_le_of_lt (by unfold cs; rw [List.length_map]; omega : _ ≤ 1000000) (by decide), ds ++ [x], ?_, ?_, ?_, ?_, ?_⟩
      · unfold cs
        rw [List.map_append]
        exact upd_same
      · intro y hy
        rcases List.mem_append.mp hy with h | h
        · exact mem y h
        · rw [List.mem_singleton] at h
          exact h ▸ hx
      · rw [List.length_append, len]
        rfl
      · have e : n + 1 + ((i + 1 : Nat) : Int) = n + 1 + i + 1 := by omega
        rw [e]
        exact pP1.put nDd nDc
      · exact (pB.trans b2).put nH
    · obtain ⟨ds, pD, mem, len, pP, pB⟩ := p
      replace len : ds.length = (a + r).toNat := len
      refine ⟨_, D, ds.map sg, rfl, rfl, .inl (by rw [← cs_strs]; exact SqL.of pD), (by rw [sum_sg, List.length_map]; show ds.length + ds.length * 0 ≤ 16777216; omega), ?_⟩
      have ej : cod (Txt.join "" (ds.map sg)) = ds := join_sg ds
      have el : (Txt.join "" (ds.map sg)).length = (a + r).toNat := by rw [← len_cod, ej, len]
      refine k _ _ (by rw [ej]; exact mem) (by rw [el]; omega) (by rw [el]; omega) ?_ pB
      obtain ⟨kvs, t', l', q⟩ := pP
      exact q.more (by show n + 1 + (((a + r).toNat : Nat) : Int) ≤ _; omega)
end
end LA
end
section
set_option Elab.async false
set_option linter.all false
set_option maxRecDepth 100000
set_option maxHeartbeats 4100000
namespace LM
/-! ### texts of blocks: the mathematics -/
section
variable {α : Type}
/-- a block: rows, and how many times they stand -/
abbrev Bk (α : Type) := List α × Nat
def one (b : Bk α) : List α := (List.replicate b.2 b.1).flatten
/-- what blocks write -/
def wr (bs : List (Bk α)) : List α := (bs.map one).flatten
theorem wr_nil : wr ([] : List (Bk α)) = [] := rfl
theorem wr_cons (b : Bk α) (bs : List (Bk α)) : wr (b :: bs) = one b ++ wr bs := rfl
theorem wr_app (a b : List (Bk α)) : wr (a ++ b) = wr a ++ wr b := by
  unfold wr
  rw [List.map_append, List.flatten_append]
theorem len_one (b : Bk α) : (one b).length = b.1.length * b.2 := by
  unfold one
  obtain ⟨r, k⟩ := b
  induction k with
  | zero => simp
  | succ k ih =>
    rw [List.replicate_succ, List.flatten_cons, List.length_append]
    show r.length + _ = r.length * (k + 1)
    have ih : (List.replicate k r).flatten.length = r.length * k := ih
    rw [ih, Nat.mul_succ, Nat.add_comm]
theorem get_one (b : Bk α) (n : Nat) (h : n < b.1.length * b.2) : (one b)[n]? = b.1[n % b.1.length]? := by
  obtain ⟨r, k⟩ := b
  have h : n < r.length * k := h
  induction k generalizing n with
  | zero => exact absurd h (by simp)
  | succ k ih =>
    show ((List.replicate (k + 1) r).flatten)[n]? = r[n % r.length]?
    rw [List.replicate_succ, List.flatten_cons]
    by_cases c : n < r.length
    · rw [List.getElem?_append_left c, Nat.mod_eq_of_lt c]
    · have c : r.length ≤ n := Nat.le_of_not_lt c
      rw [List.getElem?_append_right c]
      have lt : n - r.length < r.length * k := by
        rw [Nat.mul_succ] at h
        omega
      have z := ih (n - r.length) lt lt
      have z : ((List.replicate k r).flatten)[n - r.length]? = r[(n - r.length) % r.length]? := z
      rw [z, Nat.mod_eq_sub_mod c]
/-- within a block that stands behind pre -/
theorem get_mid (pre : List (Bk α)) (b : Bk α) (post : List (Bk α)) (n : Nat) (h : n < b.1.length * b.2) : (wr (pre ++ b :: post))[(wr pre).length + n]? = b.1[n % b.1.length]? := by
  rw [wr_app, wr_cons, List.getElem?_append_right (Nat.le_add_right _ _), Nat.add_sub_cancel_left, List.getElem?_append_left (by rw [len_one]; exact h), get_one b n h]
/-- two rows over and over, alike for as long as both are together: alike for ever -/
theorem alike_on {f g : Nat → Option α} {p q : Nat} (hp : 0 < p) (hq : 0 < q) (pf : ∀ n, f (n + p) = f n) (pg : ∀ n, g (n + q) = g n) (h : ∀ n, n < p + q → f n = g n) : ∀ n, f n = g n := by
  intro n
  induction n using Nat.strongRecOn with
  | ind n ih =>
    by_cases c : n < p + q
    · exact h n c
    · have e1 : f n = f (n - p) := by
        have z := pf (n - p)
        rw [Nat.sub_add_cancel (by omega)] at z
        exact z
      have e2 : g (n - p) = g (n - p - q) := by
        have z := pg (n - p - q)
        rw [Nat.sub_add_cancel (by omega)] at z
        exact z
      have e3 : g n = g (n - q) := by
        have z := pg (n - q)
        rw [Nat.sub_add_cancel (by omega)] at z
        exact z
      have e4 : f (n - q) = f (n - p - q) := by
        have z := pf (n - p - q)
        rw [show n - p - q + p = n - q by omega] at z
        exact z
      rw [e1, e3, ih (n - p) (by omega), e2, ← ih (n - q) (by omega), e4, ih (n - p - q) (by omega)]
/-- the same, told of rows read at offsets -/
theorem rows_alike {r t : List α} {x y many : Nat} (hr : 0 < r.length) (ht : 0 < t.length) (hm : r.length + t.length ≤ many) (h : ∀ n, n < many → r[(x + n) % r.length]? = t[(y + n) % t.length]?) (n : Nat) : r[(x + n) % r.length]? = t[(y + n) % t.length]? := by
  refine alike_on (f := fun n => r[(x + n) % r.length]?) (g := fun n => t[(y + n) % t.length]?) hr ht (fun n => ?_) (fun n => ?_) (fun n hn => h n (by omega)) n
  · show r[(x + (n + r.length)) % r.length]? = _
    rw [← Nat.add_assoc, Nat.add_mod_right]
  · show t[(y + (n + t.length)) % t.length]? = _
    rw [← Nat.add_assoc, Nat.add_mod_right]
/-- r tells where two texts first differ -/
def IsU (u v : List α) : Option Nat → Prop
  | none => u = v
  | some n => u[n]? ≠ v[n]? ∧ ∀ m, m < n → u[m]? = v[m]?
theorem IsU.eq {u v : List α} : ∀ {r s : Option Nat}, IsU u v r → IsU u v s → r = s
  | none, none, _, _ => rfl
  | none, some n, h, g => absurd (by rw [show u = v from h]) g.1
  | some n, none, h, g => absurd (by rw [show u = v from g]) h.1
  | some n, some m, h, g => by
    rcases Nat.lt_trichotomy n m with c | c | c
    · exact absurd (g.2 n c) h.1
    · rw [c]
    · exact absurd (h.2 m c) g.1
theorem IsU.symm {u v : List α} : ∀ {r : Option Nat}, IsU u v r → IsU v u r
  | none, h => (show u = v from h).symm
  | some n, h => ⟨fun e => h.1 e.symm, fun m hm => (h.2 m hm).symm⟩
/-- the end of a search: alike up to the shorter one's end -/
theorem isU_end {u v : List α} (h : ∀ m, m < min u.length v.length → u[m]? = v[m]?) : IsU u v (if u.length = v.length then none else some (min u.length v.length)) := by
  by_cases c : u.length = v.length
  · rw [if_pos c]
    refine List.ext_getElem? fun m => ?_
    by_cases d : m < u.length
    · exact h m (by omega)
    · rw [List.getElem?_eq_none (by omega), List.getElem?_eq_none (by omega)]
  · rw [if_neg c]
    refine ⟨fun e => ?_, fun m hm => h m hm⟩
    rcases Nat.lt_or_gt_of_ne c with d | d
    · rw [show min u.length v.length = u.length by omega, List.getElem?_eq_none (Nat.le_refl _), List.getElem?_eq_getElem d] at e
      cases e
    · rw [show min u.length v.length = v.length by omega, List.getElem?_eq_none (i := v.length) (l := v) (Nat.le_refl _), List.getElem?_eq_getElem d] at e
      cases e
/-! ### blocks cut -/
theorem one_add (r : List α) (a b : Nat) : one (r, a) ++ one (r, b) = one (r, a + b) := by
  show (List.replicate a r).flatten ++ (List.replicate b r).flatten = (List.replicate (a + b) r).flatten
  rw [← List.flatten_append, List.replicate_append_replicate]
theorem one_one (r : List α) : one (r, 1) = r := by
  show (List.replicate 1 r).flatten = r
  simp
theorem one_two (r : List α) (h : Nat) : one (r ++ r, h) = one (r, 2 * h) := by
  induction h with
  | zero => rfl
  | succ h ih =>
    have e : one (r, 2 * (h + 1)) = one (r, 2) ++ one (r, 2 * h) := by
      rw [one_add, show 2 + 2 * h = 2 * (h + 1) by omega]
    rw [e, ← ih]
    show (List.replicate (h + 1) (r ++ r)).flatten = (List.replicate 2 r).flatten ++ (List.replicate h (r ++ r)).flatten
    rw [List.replicate_succ, List.flatten_cons]
    simp [List.replicate_succ]
theorem one_succ (r : List α) (k : Nat) : one (r, k + 1) = r ++ one (r, k) := by
  show (List.replicate (k + 1) r).flatten = _
  rw [List.replicate_succ, List.flatten_cons]
  rfl
theorem one_turn (a b : List α) (k : Nat) : a ++ one (b ++ a, k) ++ b = one (a ++ b, k + 1) := by
  induction k with
  | zero =>
    show a ++ [] ++ b = _
    rw [List.append_nil, one_one]
  | succ k ih =>
    rw [one_succ (b ++ a) k, one_succ (a ++ b) (k + 1), ← ih]
    simp only [List.append_assoc]
end
end LM
end
section
set_option Elab.async false
set_option linter.all false
set_option maxRecDepth 100000
set_option maxHeartbeats 4100000
namespace XT
open PySem PySem.Spec PyProof.Rows L2
/-! ### max of a list of ints, with what stands for none -/
section
variable {prog : Program} {w : World} {A : Around} {R : Result → Shared → Prop} {I S : Addr} {fp wr : List Addr} {n : Nat} {P : Nat → Value → Prop} {St : Nat → Heap → Prop} {bt : Nat → Nat → Bool} {d : Value}
def heldBy : Option Value → Array Value
  | none => #[]
  | some v => #[v, v]
def BestOf (P : Nat → Value → Prop) (bt : Nat → Nat → Bool) (d : Value) (n : Nat) (v : Value) : Prop := (n = 0 ∧ v = d) ∨ (0 < n ∧ P (argBest bt (n - 1)) v)
def Have (P : Nat → Value → Prop) (bt : Nat → Nat → Bool) (i : Nat) : Option Value → Prop
  | none => i = 0
  | some v => 0 < i ∧ P (argBest bt (i - 1)) v
theorem max_turns (W : Walks prog w A.in1 I fp wr n P St) (C : CmpOf prog w A.in1 .Gt P bt) (nS : S ∉ fp) : ∀ (k i : Nat) (s : Shared) (b : Option Value) (c : Nat), n = i + k → St i s.heap → Have P bt i b →
    s.heap.get? S = some { cls := .type "list", data := .seq (heldBy b) c } →
    (∀ v h' tk, BestOf P bt d n v → (∀ x o, x ∉ wr → x ≠ S → s.heap.get? x = some o → h'.get? x = some o) → R (.ok (.ret v)) { s with heap := h', toks := tk }) →
    codeAny (model prog w) A (.builtin "max.loop" ⟨[.ref I, .none, .ref S], [("default", d)]⟩) R s := by
  have nW : S ∉ wr := fun h => nS (W.sub _ h)
  intro k
  induction k with
  | zero =>
    intro i s b c e st hb hS q
    obtain rfl : n = i := e
    refine codeAny_builtin
          F.entry_max_loop ?_
    rw [Around.under_plainId
          F.plain_max_loop _]
    show wpAny _ _ (seqItems? (.ref S) >>= _) _ _ s
    refine wpAny_bind
          (wpAny_seqItems hS rfl ?_)
    show wpAny _ _ (tryCatch (pyNext (.ref I)) _ >>= _) _ _ s
    refine wpAny_bind (wpAny_tryCatch (W.done s _ _ st fun h' tk keep => ?_))
    cases b with
    | none =>
      obtain rfl : n = 0 := hb
      show wpAny _ _ (rule _ >>= _) _ _ _
      exact wpAny_bind (wpAny_rule (wpAny_pure (q d h' tk (.inl ⟨rfl, rfl⟩) fun x o h1 _ h3 => keep x o h1 h3)))
    | some v =>
      have hS2 := keep S _ nW hS
      show wpAny _ _ (updateSeq S (fun _ => #[]) >>= _) _ _ _
      refine wpAny_bind (wpAny_updateSeq hS2 rfl (wpAny_bind (wpAny_letGo (wpAny_pure ?_))) (hz := by show 2 ≤ sizeLine; decide))
      exact q v _ tk (.inr hb) fun x o h1 h2 h3 => (Heap.get?_update_other _ _ h2.symm).trans (keep x o h1 h3)
  | succ k ih =>
    intro i s b c e st hb hS q
    have lt : i < n := by omega
    have name : (toString "max" ++ toString ".loop" : String) = "max.loop" := by decide
    refine codeAny_builtin
          F.entry_max_loop ?_
    rw [Around.under_plainId
          F.plain_max_loop _]
    show wpAny _ _ (seqItems? (.ref S) >>= _) _ _ s
    refine wpAny_bind
          (wpAny_seqItems hS rfl ?_)
    show wpAny _ _ (tryCatch (pyNext (.ref I)) _ >>= _) _ _ s
    refine wpAny_bind (wpAny_tryCatch (W.item i s _ _ lt st fun v h' tk hv st2 keep => ?_))
    have hS2 := keep S _ nW hS
    have put : ∀ (x : Array Value), St (i + 1) (h'.update S (Obj.mapSeq fun _ => x)) := fun x => W.frame _ _ _ st2 fun y hy o ey => (Heap.get?_update_other _ _ (fun h : S = y => nS (h ▸ hy))).trans ey
    have old : ∀ (x : Array Value) (y : Addr) (o : Obj), y ∉ wr → y ≠ S → s.heap.get? y = some o → (h'.update S (Obj.mapSeq fun _ => x)).get? y = some o := fun x y o h1 h2 h3 => (Heap.get?_update_other _ _ h2.symm).trans (keep y o h1 h3)
    cases b with
    | none =>
      obtain rfl : i = 0 := hb
      show wpAny _ _ (updateSeq S (fun _ => #[v, v]) >>= _) _ _ _
      refine wpAny_bind
            (wpAny_updateSeq hS2 rfl ?_)
      rw [name]
      refine wpAny_pure ⟨plainId_quiet F.plain_max_loop _, ih 1 _ (some v) _ (by omega) (put _) ⟨Nat.one_pos, hv⟩ (Heap.get?_update_self _ hS2 rfl) fun z h2 t2 hz k2 => ?_⟩
      exact q z h2 t2 hz fun y o h1 h3 h4 => k2 y o h1 h3 (old _ y o h1 h3 h4)
    | some u =>
      obtain ⟨ip, hu⟩ := hb
      show wpAny _ _ (tryCatch (holding [v, v] (richCompare .Gt v u >>= _)) _ >>= _) _ _ _
      refine wpAny_bind (wpAny_tryCatch (wpAny_holding (wpAny_bind (C i (argBest bt (i - 1)) v u _ _ _ hv hu ?_))))
      refine wpAny_bind (wpAny_holding
            (wpAny_truthy_bool ?_))
      refine wpAny_bind
            (wpAny_letGo (wpAny_pure ?_))
      have step : argBest bt i = if bt i (argBest bt (i - 1)) then i else argBest bt (i - 1) := by
        cases i with
        | zero => exact absurd ip (Nat.lt_irrefl 0)
        | succ j => rfl
      cases hc : bt i (argBest bt (i - 1)) with
      | true =>
        rw [hc, if_pos rfl] at step
        simp only [if_true]
        refine wpAny_bind (wpAny_updateSeq hS2 rfl (wpAny_bind (wpAny_letGo ?_)) (hz := by show 2 ≤ sizeLine; decide))
        rw [name]
        refine wpAny_pure ⟨plainId_quiet F.plain_max_loop _, ih (i + 1) _ (some v) _ (by omega) (put _) ⟨Nat.succ_pos _, by rw [Nat.add_sub_cancel, step]; exact hv⟩ (Heap.get?_update_self _ hS2 rfl) fun z h2 t2 hz k2 => ?_⟩
        exact q z h2 t2 hz fun y o h1 h3 h4 => k2 y o h1 h3 (old _ y o h1 h3 h4)
      | false =>
        rw [hc, if_neg (by decide)] at step
        simp only [Bool.false_eq_true,
              if_false]
        refine wpAny_bind
              (wpAny_letGo ?_)
        rw [name]
        refine wpAny_pure ⟨plainId_quiet F.plain_max_loop _, ih (i + 1) _ (some u) c (by omega) st2 ⟨Nat.succ_pos _, by rw [Nat.add_sub_cancel, step]; exact hu⟩ hS2 fun z h2 t2 hz k2 => ?_⟩
        exact q z h2 t2 hz fun y o h1 h3 h4 => k2 y o h1 h3 (keep y o h1 h4)
end
section
variable {prog : Program} {w : World} {A : Around} {E : Value → Shared → Prop} {s : Shared} {l : Addr} {its : List Value} {ns : List Int} {Q : Value → Shared → Prop} {d : Value}
/-- a built-in function by keywords that goes on in a loop of its own -/
theorem call_goes {id : String} {b : Builtin} {args : List Value} {kw : List (Str × Value)} (hk : builtinKind id = none) (hp : plainId id = true) (hb : entryFor table id = some b) (ha : argsOk id ⟨args, kw⟩)
    (hc : wpAny (model prog w) A.in1 (b ⟨args, kw⟩) (fun fin s' => ∃ c, fin = .again c ∧ c.quiet = true ∧ codeAny (model prog w) A c (fun r s₁ => ∃ v, r = .ok (.ret v) ∧ Q v s₁) s') E s) :
    wpAny (model prog w) A (call
          (.builtin id) args kw) Q E s := by
  refine wpAny_call
        (codeAny_call_builtin hp hb ?_)
  have go : wpAny (model prog w) A.in1 (b ⟨args, kw⟩) (fun fin s' => match fin with
      | .done f => (match (Except.ok f : Result) with
        | .ok (.ret v) => Q v s'
        | .ok _ => False
        | .error e => E e s')
      | .again c' => c'.quiet = true ∧ codeAny (model prog w) A c' (fun r s' => match r with | .ok (.ret v) => Q v s' | .ok _ => False | .error e => E e s') s') E s := by
    refine wpAny_mono hc (fun fin s' q => ?_) fun _ _ e => e
    obtain ⟨c, rfl, q1, q2⟩ := q
    refine ⟨q1, codeAny_mono q2 fun r s1 q3 => ?_⟩
    obtain ⟨v, rfl, q4⟩ := q3
    exact q4
  simp only
        [checkBuiltinCall, hk]
  cases sg : Manifest.signature? id with
  | none => exact wpAny_pure go
  | some y =>
    have ok : Bind.checkArgs id y ⟨args, kw⟩ = pure () := by simpa only [argsOk, sg] using ha
    simp only [ok]
    exact wpAny_pure go
theorem max_dflt (hh : A.handled = none) (hl : s.heap.IsList l its.toArray) (hi : IntsAre its ns)
    (h : ∀ h' tk v, (∀ b o, s.heap.get? b = some o → h'.get? b = some o) → (ns = [] ∧ v = d) ∨ (∃ M t, v = .int M t ∧ M ∈ ns ∧ ∀ a ∈ ns, a ≤ M) → Q v { s with heap := h', toks := tk }) : wpAny (model prog w) A (call (.builtin "max") [.ref l] [("default", d)]) Q E s := by
  obtain ⟨xs, e⟩ :=
        hi.allInts.items
  have hn : numsOf (intItems xs).toList
        = ns := by rw [← e]; exact hi.numsOf
  rw [nums_intItems] at hn
  subst hn
  rw [e] at hl
  have name : (toString "max" ++ toString ".loop" : String) = "max.loop" := by decide
  have okA : argsOk "max" ⟨[.ref l], [("default", d)]⟩ := by unfold argsOk; kernel_rfl
  refine call_goes F.kind_max F.plain_max F.entry_max okA ?_
  show wpAny _ A.in1 (Builtin.Builtins.bindParams "max" ["key", "default"] 0 ⟨[], [("default", d)]⟩ >>= _) _ _ s
  refine wpAny_bind (wpAny_of_eq (show Builtin.Builtins.bindParams "max" ["key", "default"] 0 ⟨[], [("default", d)]⟩ = pure [none, some d] from rfl) ?_)
  refine wpAny_bind
        (wpAny_pure ?_)
  refine wpAny_bind (iter_intList hl fun s2 e st fp ne => ?_)
  subst e
  refine wpAny_bind
        (wpAny_newObj_type ?_)
  rw [name]
  have W := Walks.list (prog := prog) (w := w) (A := A.in1) (by exact hh) s.heap.objs.size l ne (intItems xs)
  refine wpAny_pure ⟨_, rfl, plainId_quiet F.plain_max_loop _, ?_⟩
  refine max_turns (d := d) W (CmpOf.ints_gt (numAt xs) fun _ _ => intItems_at) (fun z => Nat.lt_irrefl _ (fp _ z)) _ 0 _ none _ (by rw [Nat.zero_add]) (W.frame _ _ _ st fun b _ o e => Heap.get?_push_of_some _ e) rfl (Heap.get?_push_size _ rfl) fun v h' tk hv keep => ⟨v, rfl, ?_⟩
  refine h h' tk v (fun b o e => ?_) ?_
  · have lt := Heap.lt_size e
    refine keep b o (fun z => ?_) (fun z => ?_) (Heap.get?_push_of_some _ (Heap.get?_push_of_some _ e))
    · exact Nat.ne_of_lt lt (List.mem_singleton.mp z)
    · subst z
      rw [Heap.size_push] at lt
      exact Nat.lt_irrefl _ (Nat.lt_of_succ_lt lt)
  · rcases hv with ⟨n0, rfl⟩ | ⟨np, hv⟩
    · left
      refine ⟨?_, rfl⟩
      have z : xs.size = 0 := by simpa [intItems] using n0
      rw [Array.eq_empty_of_size_eq_zero z]
      rfl
    · right
      obtain ⟨t, rfl⟩
            := intItems_at hv
      have np' : 0 < xs.size := by simpa [intItems] using np
      have e : (intItems xs).size = xs.size := by simp [intItems]
      rw [e]
      obtain ⟨h1, h2⟩ := argBest_gt
            (numAt xs) (xs.size - 1)
      refine ⟨_, t, rfl, ?_, fun a ha => ?_⟩
      · rw [numAt_eq]
        exact PySem.getD_mem (by rw [List.length_map, Array.length_toList]; omega)
      · obtain ⟨j, hj,
            rfl⟩ := mem_getD ha
        rw [List.length_map,
              Array.length_toList] at hj
        rw [← numAt_eq]
        exact h2 j (by omega)
end
section
variable {X : Cx}
/-- max(xs, default=v) of a list of ints: the reading -/
def rMaxOr (K : PySem.W.Frag) : List V → List V → Hp → VK → Prop := fun vs zs H Q => ∃ (a : Addr) (ns : List Int) (i : Int), vs = [V.ref a] ∧ zs = [V.int i] ∧ SqL K H a (ns.map V.int) ∧ ∀ m : Int, (ns = [] ∧ m = i) ∨ (m ∈ ns ∧ ∀ y ∈ ns, y ≤ m) → Q (.int m) H
theorem cr_maxOr (hc : X.calm = true) : CallRK X (.builtin "max") ["default"] (rMaxOr X.K) := by
  intro pins s σ H vs zs us ws Q I r r2 h
  obtain ⟨a, ns, i, rfl, rfl, hs, q⟩ := h
  obtain ⟨its, rv,
        hl, _⟩ := I.list hs
  rw [Vals.ref1 r]
  obtain ⟨u, rfl, t, rfl⟩ := vals1 r2
  refine max_dflt (I.ok.hd hc) hl.isList rv.ints fun h' tk v keep hv => ?_
  rcases hv with ⟨e, rfl⟩ | ⟨M, t2, rfl, h1, h2⟩
  · exact ⟨.int i, H, I.kept keep, ⟨_, rfl⟩, q i (.inl ⟨e, rfl⟩)⟩
  · exact ⟨.int M, H, I.kept keep, ⟨_, rfl⟩, q M (.inr ⟨h1, h2⟩)⟩
/-- any of several readings -/
theorem pe_ex {ι : Sort _} {e : Expr} {t : ι → TE} (h : ∀ i, PE X e (t i)) : PE X e (fun σ H Q => ∃ i, t i σ H Q) :=
  ⟨fun pins s σ H Q I ⟨i, q⟩ => (h i).run pins s σ H Q I q⟩
end
end XT
end
section
set_option Elab.async false
set_option linter.all false
set_option maxRecDepth 100000
set_option maxHeartbeats 4100000
namespace XT
open PySem PySem.Spec PyProof.Rows L2
/-! ### sum of lists, from a list on -/
def lsO (xs : List Value) (c : Nat) : Obj := { cls := .type "list", data := .seq xs.toArray c }
def restOf (L : Nat → List Value) : Nat → Nat → List Value
  | _, 0 => []
  | i, k + 1 => L i ++ restOf L (i + 1) k
section
variable {prog : Program} {w : World} {A : Around} {R : Result → Shared → Prop} {I S : Addr} {fp wr : List Addr} {n : Nat} {P : Nat → Value → Prop} {St : Nat → Heap → Prop}
theorem sum_turns (W : Walks prog w A.in1 I fp wr n P St) (nS : S ∉ fp) (wS : ∀ b ∈ wr, b < S) (B : Nat → Addr) (L : Nat → List Value) (isB : ∀ i v, P i v → v = .ref (B i)) (nB : ∀ i, i < n → B i ∉ wr ∧ B i ≠ S) :
    ∀ (k i : Nat) (s : Shared) (t : Addr) (cur : List Value) (c c1 : Nat), n = i + k → St i s.heap → (∀ j, j < n → ∃ c, s.heap.get? (B j) = some (lsO (L j) c)) →
    s.heap.get? S = some (lsO [.ref t] c) → s.heap.get? t = some (lsO cur c1) → t ≠ S → t ∉ wr → cur.length + (restOf L i k).length ≤ sizeLine →
    (∀ h' tk t' c', h'.get? t' = some (lsO (cur ++ restOf L i k) c') → (S < t ∨ 0 < k → S < t') → (∀ x o, x ∉ wr → x ≠ S → s.heap.get? x = some o → h'.get? x = some o) → R (.ok (.ret (.ref t'))) { s with heap := h', toks := tk }) →
    codeAny (model prog w) A (.builtin "sum.loop" ⟨[.ref I, .ref S, rawInt 2, rawInt 0], []⟩) R s := by
  have nW : S ∉ wr := fun h => nS (W.sub _ h)
  intro k
  induction k with
  | zero =>
    intro i s t cur c c1 e st ls hS ht tS tw fit q
    obtain rfl : n = i := e
    refine codeAny_builtin
          F.entry_sum_loop ?_
    rw [Around.under_plainId
          F.plain_sum_loop _]
    show wpAny _ _ (seqItems? (.ref S) >>= _) _ _ s
    refine wpAny_bind
          (wpAny_seqItems hS rfl ?_)
    show wpAny _ _ (tryCatch (pyNext (.ref I)) _ >>= _) _ _ s
    refine wpAny_bind (wpAny_tryCatch (W.done s _ _ st fun h' tk keep => ?_))
    exact wpAny_pure (q h' tk t c1 (by show _ = some (lsO (cur ++ []) _); rw [List.append_nil]; exact keep t _ tw ht) (fun z => z.elim id fun y => absurd y (Nat.lt_irrefl 0)) fun x o h1 _ h3 => keep x o h1 h3)
  | succ k ih =>
    intro i s t cur c c1 e st ls hS ht tS tw fit q
    have lt : i < n := by omega
    have eR : restOf L i (k + 1) = L i ++ restOf L (i + 1) k := rfl
    rw [eR, List.length_append] at fit
    refine codeAny_builtin
          F.entry_sum_loop ?_
    rw [Around.under_plainId
          F.plain_sum_loop _]
    show wpAny _ _ (seqItems? (.ref S) >>= _) _ _ s
    refine wpAny_bind
          (wpAny_seqItems hS rfl ?_)
    show wpAny _ _ (tryCatch (pyNext (.ref I)) _ >>= _) _ _ s
    refine wpAny_bind (wpAny_tryCatch (W.item i s _ _ lt st fun v h' tk hv st2 keep => ?_))
    obtain rfl := isB i v hv
    obtain ⟨nb1, nb2⟩ := nB i lt
    obtain ⟨cb, hb⟩ := ls i lt
    have hS2 := keep S _ nW hS
    have ht2 := keep t _ tw ht
    have hb2 := keep _ _ nb1 hb
    show wpAny _ _ (Sem.attempt (holding [.ref (B i)] (binaryOp .Add (.ref t) (.ref (B i)))) >>= _) _ _ _
    refine wpAny_bind (wpAny_attempt (wpAny_holding (PySem.P.add_list ht2 hb2 ?_ (by simp only [List.size_toArray]; omega))))
    have eA : cur.toArray ++ (L i).toArray = (cur ++ L i).toArray := by simp
    rw [eA]
    have big : ∀ x o, h'.get? x = some o → (h'.push (lsO (cur ++ L i) 0)).get? x = some o := fun x o e => Heap.get?_push_of_some _ e
    have lS : S < h'.objs.size := Heap.lt_size hS2
    have hS3 := big S _ hS2
    show wpAny _ _ (updateSeq S (fun _ => #[.ref h'.objs.size]) >>= _) _ _ _
    refine wpAny_bind (wpAny_updateSeq hS3 rfl (wpAny_bind (wpAny_letGo ?_)))
    have hS4 := Heap.get?_update_self (Obj.mapSeq fun _ => #[Value.ref h'.objs.size]) hS3 rfl
    show wpAny _ _ (updateSeq S (fun _ => #[.ref h'.objs.size]) >>= _) _ _ _
    refine wpAny_bind (wpAny_updateSeq hS4 rfl ?_)
    have hS5 := Heap.get?_update_self (Obj.mapSeq fun _ => #[Value.ref h'.objs.size]) hS4 rfl
    have far : ∀ x o, x ≠ S → h'.get? x = some o → (((h'.push (lsO (cur ++ L i) 0)).update S (Obj.mapSeq fun _ => #[Value.ref h'.objs.size])).update S (Obj.mapSeq fun _ => #[Value.ref h'.objs.size])).get? x = some o :=
      fun x o h1 h2 => (Heap.get?_update_other _ _ h1.symm).trans ((Heap.get?_update_other _ _ h1.symm).trans (big x o h2))
    have nn : h'.objs.size ≠ S := (Nat.ne_of_lt lS).symm
    have hn : (((h'.push (lsO (cur ++ L i) 0)).update S (Obj.mapSeq fun _ => #[Value.ref h'.objs.size])).update S (Obj.mapSeq fun _ => #[Value.ref h'.objs.size])).get? h'.objs.size = some (lsO (cur ++ L i) 0) :=
      (Heap.get?_update_other _ _ nn.symm).trans ((Heap.get?_update_other _ _ nn.symm).trans (Heap.get?_push_size _ rfl))
    refine wpAny_pure ⟨plainId_quiet F.plain_sum_loop _, ?_⟩
    refine ih (i + 1) { s with heap := ((h'.push (lsO (cur ++ L i) 0)).update S (Obj.mapSeq fun _ => #[Value.ref h'.objs.size])).update S (Obj.mapSeq fun _ => #[Value.ref h'.objs.size]), toks := tk } h'.objs.size (cur ++ L i) _ 0 (by omega) (W.frame _ _ _ st2 fun y hy o ey => far y o (fun z => nS (z ▸ hy)) ey) (fun j hj => ?_) hS5 hn nn ?_ (by rw [List.length_append]; omega) fun h2 t2 u c2 e1 e2 e3 => ?_
    · obtain ⟨cj, hj2⟩ := ls j hj
      obtain ⟨m1, m2⟩ := nB j hj
      exact ⟨cj, far _ _ m2 (keep _ _ m1 hj2)⟩
    · exact fun z => Nat.lt_irrefl _ (Nat.lt_trans lS (wS _ z))
    · refine q h2 t2 u c2 ?_ (fun _ => e2 (.inl lS)) fun x o h1 h3 h4 => e3 x o h1 h3 (far x o h3 (keep x o h1 h4))
      rw [eR, ← List.append_assoc]
      exact e1
end
section
variable {prog : Program} {w : World} {A : Around} {E : Value → Shared → Prop} {s : Shared} {l b : Addr} {items : Array Value} {Q : Value → Shared → Prop} {cur : List Value} {cb : Nat}
theorem sum_lists (hh : A.handled = none) (hl : s.heap.IsList l items) (B : Nat → Addr) (L : Nat → List Value) (hB : ∀ i, i < items.size → items[i]? = some (.ref (B i))) (hL : ∀ i, i < items.size → ∃ c, s.heap.get? (B i) = some (lsO (L i) c))
    (hb : s.heap.get? b = some (lsO cur cb)) (np : 0 < items.size) (fit : cur.length + (restOf L 0 items.size).length ≤ sizeLine)
    (h : ∀ h' tk t' c', h'.get? t' = some (lsO (cur ++ restOf L 0 items.size) c') → s.heap.objs.size ≤ t' → (∀ x o, s.heap.get? x = some o → h'.get? x = some o) → Q (.ref t') { s with heap := h', toks := tk }) :
    wpAny (model prog w) A (call (.builtin "sum") [.ref l, .ref b] []) Q E s := by
  have okA : argsOk "sum" ⟨[.ref l, .ref b], []⟩ := by unfold argsOk; kernel_rfl
  have ll := Heap.lt_size hl.choose_spec.1
  have lb := Heap.lt_size hb
  refine call_goes F.kind_sum F.plain_sum F.entry_sum okA ?_
  unfold Builtin.«sum»
  simp only [List.length_cons,
        List.length_nil]
  rw [if_neg (by decide)]
  refine wpAny_bind (wpAny_of_eq (show Builtin.Builtins.bindParams "sum" ["start"] 0 { pos := [Value.ref b] } = pure [some (.ref b)] from rfl) ?_)
  refine wpAny_bind
        (wpAny_pyIter_list hl ?_)
  refine wpAny_bind
        (wpAny_pure ?_)
  have hb2 : (s.heap.push { cls := .type "list_iterator", data := .fields #[.ref l, .int 0 0] }).get? b = some (lsO cur cb) := Heap.get?_push_of_some _ hb
  have ty : Shared.TypeIs { s with heap := s.heap.push { cls := .type "list_iterator", data := .fields #[.ref l, .int 0 0] } } (.ref b) "list" := ⟨_, hb2, rfl⟩
  simp only [List.forIn_cons,
        List.forIn_nil]
  refine wpAny_bind (wpAny_bind (wpAny_bind (wpAny_isInstance (T := "list") (b := false) ty PySem.F.sub_list_str ?_)))
  simp only [Bool.false_eq_true,
        if_false]
  refine wpAny_pure (wpAny_bind (wpAny_bind (wpAny_isInstance (T := "list") (b := false) ty PySem.F.sub_list_bytes ?_)))
  simp only [Bool.false_eq_true,
        if_false]
  refine wpAny_pure (wpAny_bind (wpAny_bind (wpAny_isInstance (T := "list") (b := false) ty PySem.F.sub_list_bytearray ?_)))
  simp only [Bool.false_eq_true,
        if_false]
  refine wpAny_pure
        (wpAny_pure ?_)
  refine wpAny_bind
        (wpAny_newObj_type ?_)
  have eS : (s.heap.push { cls := .type "list_iterator", data := .fields #[.ref l, .int 0 0] }).objs.size = s.heap.objs.size + 1 := Heap.size_push _ _
  have old : ∀ x o, s.heap.get? x = some o → ((s.heap.push { cls := .type "list_iterator", data := .fields #[.ref l, .int 0 0] }).push { cls := .type "list", data := .seq #[.ref b] }).get? x = some o := fun x o e => Heap.get?_push_of_some _ (Heap.get?_push_of_some _ e)
  have W := Walks.list (prog := prog) (w := w) (A := A.in1) (by exact hh) s.heap.objs.size l (Nat.ne_of_lt ll) items
  rw [eS]
  refine wpAny_pure ⟨_, rfl, plainId_quiet F.plain_sum_loop _, ?_⟩
  refine sum_turns W (S := s.heap.objs.size + 1) (fun z => ?_) (fun x z => ?_) B L (fun i v hv => ?_) (fun i hi => ?_) items.size 0 { s with heap := (s.heap.push { cls := .type "list_iterator", data := .fields #[.ref l, .int 0 0] }).push { cls := .type "list", data := .seq #[.ref b] } } b cur 0 cb (by rw [Nat.zero_add]) ⟨?_, hl.at fun o e => old _ _ e⟩ (fun j hj => ?_) ?_ (old _ _ hb) ?_ ?_ fit fun h' tk t' c' e1 e2 e3 => ⟨_, rfl, ?_⟩
  · rcases List.mem_cons.mp z with e | e
    · exact Nat.succ_ne_self _ e
    · have e2 := List.mem_singleton.mp e
      rw [← e2] at ll
      exact Nat.lt_irrefl _ (Nat.lt_of_succ_lt ll)
  · rw [List.mem_singleton.mp
        z]
    exact Nat.lt_succ_self _
  · have z : i < items.size := (Array.getElem?_eq_some_iff.mp hv).1
    exact Option.some.inj (hv.symm.trans (hB i z))
  · obtain ⟨c, e⟩ := hL i hi
    have z := Heap.lt_size e
    exact ⟨fun y => Nat.ne_of_lt z (List.mem_singleton.mp y), Nat.ne_of_lt (Nat.lt_succ_of_lt z)⟩
  · exact ⟨_, Heap.get?_push_of_some _ (Heap.get?_push_size _ rfl), rfl, rfl⟩
  · obtain ⟨c, e⟩ := hL j hj
    exact ⟨c, old _ _ e⟩
  · rw [← eS]
    exact
          Heap.get?_push_size _ rfl
  · exact Nat.ne_of_lt (Nat.lt_succ_of_lt lb)
  · exact fun y => Nat.ne_of_lt lb (List.mem_singleton.mp y)
  · refine h h' tk t' c' e1 (Nat.le_of_lt (Nat.lt_trans (Nat.lt_succ_self _) (e2 (.inr np)))) fun x o e => ?_
    have z := Heap.lt_size e
    exact e3 x o (fun y => Nat.ne_of_lt z (List.mem_singleton.mp y)) (Nat.ne_of_lt (Nat.lt_succ_of_lt z)) (old x o e)
end
theorem rest_vals {L : Nat → List Value} : ∀ (ps : List (Addr × List V)) (i : Nat), (∀ j p, ps[j]? = some p → Vals p.2 (L (i + j))) → Vals (ps.map (·.2)).flatten (restOf L i ps.length)
  | [], _, _ => .nil
  | p :: r, i, h => by
    show Vals (p.2 ++ (r.map (·.2)).flatten) (L i ++ restOf L (i + 1) r.length)
    refine Vals.append (h 0 p rfl) (rest_vals r (i + 1) fun j q e => ?_)
    have z := h (j + 1) q (by rw [List.getElem?_cons_succ]; exact e)
    rw [Nat.add_assoc, Nat.add_comm 1 j]
    exact z
section
variable {X : Cx}
/-- sum(lists, list): one list or more, each on its own -/
def rSumL : List V → Hp → VK → Prop := fun vs H Q => ∃ (a b : Addr) (ps : List (Addr × List V)) (zs : List V), vs = [V.ref a, V.ref b] ∧ H a = some (.lst (ps.map fun p => .ref p.1)) ∧ H b = some (.lst zs) ∧ 0 < ps.length ∧ (∀ p ∈ ps, H p.1 = some (.lst p.2)) ∧
  zs.length + ((ps.map (·.2)).flatten).length ≤ sizeLine ∧ ∀ p, H p = none → Q (.ref p) (upd H p (.lst (zs ++ (ps.map (·.2)).flatten)))
theorem cr_sumL (hc : X.calm = true) : CallR X (.builtin "sum") rSumL := by
  intro pins s σ
        H vs us Q I r h
  obtain ⟨a, b, ps, zs, rfl, ha, hb, np, hp, fit, q⟩ := h
  obtain ⟨u, us2, rfl, ru, r2⟩ : ∃ u us2, us = u :: us2 ∧ RelV (V.ref a) u ∧ Vals [V.ref b] us2 := by
    cases r with
    | cons x y => exact
          ⟨_, _, rfl, x, y⟩
  rw [Vals.ref1 r2]
  obtain rfl : u =
        Value.ref a := ru
  obtain ⟨_, ia, na, va, la, ea⟩ := I.lstM ha
  obtain ⟨_, ib, nb, vb, lb, eb⟩ := I.lstM hb
  have lps : ps.length = ia.length := by rw [← la, List.length_map]
  have ex : ∀ i, i < ps.length → ∃ (xs : List Value) (c : Nat) (p : Addr × List V), ps[i]? = some p ∧ Vals p.2 xs ∧ s.heap.get? p.1 = some (lsO xs c) := fun i hi => by
    obtain ⟨_, xs, c, v, _, e⟩ := I.lstM (hp ps[i] (List.getElem_mem hi))
    exact ⟨xs, c, ps[i], List.getElem?_eq_getElem hi, v, e⟩
  have sz : ia.toArray.size = ps.length := by rw [List.size_toArray, lps]
  have rv : Vals (ps.map (·.2)).flatten (restOf (fun i => if h : i < ps.length then (ex i h).choose else []) 0 ps.length) := by
    refine rest_vals ps 0 fun j p e => ?_
    have hj : j < ps.length := (List.getElem?_eq_some_iff.mp e).1
    rw [Nat.zero_add, dif_pos hj]
    obtain ⟨c, p2, e2, v2, _⟩ := (ex j hj).choose_spec
    obtain rfl : p2 = p := Option.some.inj (e2.symm.trans e)
    exact v2
  refine sum_lists (items := ia.toArray) (cur := ib) (cb := nb) (I.ok.hd hc) ⟨_, ea, rfl, _, rfl⟩ (fun i => if h : i < ps.length then ps[i].1 else 0) (fun i => if h : i < ps.length then (ex i h).choose else []) (fun i hi => ?_) (fun i hi => ?_) eb (by rw [sz]; exact np) ?_ fun h' tk t' c' e1 e2 e3 => ?_
  · rw [sz] at hi
    rw [dif_pos hi]
    have ev : (ps.map fun p => V.ref p.1)[i]? = some (V.ref ps[i].1) := by
      rw [List.getElem?_map, List.getElem?_eq_getElem hi]
      rfl
    obtain ⟨u, h1, h2⟩ := Vals.get va ev
    obtain rfl : u = Value.ref ps[i].1 := h2
    simpa using h1
  · rw [sz] at hi
    rw [dif_pos hi, dif_pos hi]
    obtain ⟨c, p2, e2, _, e3⟩ := (ex i hi).choose_spec
    obtain rfl : p2 = ps[i] := Option.some.inj (e2.symm.trans (List.getElem?_eq_getElem hi))
    exact ⟨c, e3⟩
  · rw [sz, ← rv.length, ← vb.length]
    exact fit
  · rw [sz] at e1
    have vv := vb.append rv
    exact ⟨.ref t', _, I.laid (t' := tk) (o := .lst (zs ++ (ps.map (·.2)).flatten)) e3 e2 ⟨by rw [List.length_append]; exact fit, _, c', vv, e1⟩, rfl, q t' (I.hok.fresh e2)⟩
end
end XT
end
section
set_option Elab.async false
set_option linter.all false
set_option maxRecDepth 100000
set_option maxHeartbeats 4100000
namespace XT
open PySem PySem.Spec PyProof.Rows L2 XS
/-! ### how many unlike signs a text has: len(set(text)) -/
/-- the texts of one sign that stand among the first i signs -/
def among (cs : List Nat) (i : Nat) : Str → Bool := fun z => (cs.take i).any fun c => sg c == z
theorem among_iff {cs : List Nat} {i c : Nat} : among cs i (sg c) = true ↔ c ∈ cs.take i := by
  unfold among
  rw [List.any_eq_true]
  refine ⟨fun ⟨d, h1, h2⟩ => ?_, fun h => ⟨c, h, by simp⟩⟩
  rw [beq_iff_eq] at h2
  exact sg_inj h2 ▸ h1
theorem among_succ {cs : List Nat} {i c : Nat} (h : cs[i]? = some c) (z : Str) : (among cs i z || decide (z = sg c)) = among cs (i + 1) z := by
  unfold among
  rw [List.take_succ, h]
  simp only [Option.toList, List.any_append, List.any_cons, List.any_nil, Bool.or_false]
  congr 1
  by_cases e : z = sg c
  · subst e
    simp
  · rw [decide_eq_false e]
    symm
    rw [beq_eq_false_iff_ne]
    exact fun y => e y.symm
section
variable {prog : Program} {w : World} {A : Around} {R : Result → Shared → Prop} {I S : Addr} {fp wr : List Addr} {St : Nat → Heap → Prop} {x : Str}
theorem set_turns (W : Walks prog w A.in1 I fp wr x.cps.size (SignAt x) St) (nS : S ∉ fp) (small : x.length < 4000) :
    ∀ (k i m : Nat) (s : Shared), x.cps.size = i + k → St i s.heap → s.heap.SetOf (PySem.strKind prog w) S (among (cod x) i) m → m ≤ i → (m = i ↔ ((cod x).take i).Nodup) →
      (∀ h' tk m', h'.SetOf (PySem.strKind prog w) S (among (cod x) x.cps.size) m' → m' ≤ x.cps.size → (m' = x.cps.size ↔ (cod x).Nodup) → (∀ y o, y ∉ wr → y ≠ S → s.heap.get? y = some o → h'.get? y = some o) → R (.ok (.ret .none)) { s with heap := h', toks := tk }) →
      codeAny (model prog w) A (.builtin
            "set.update.loop" ⟨[.ref S, .ref I], []⟩) R s := by
  have nW : S ∉ wr := fun h => nS (W.sub _ h)
  intro k
  induction k with
  | zero =>
    intro i m s e st hS le iff q
    obtain rfl : x.cps.size = i := e
    refine codeAny_builtin
          PyProof.Rows.F.entry_set_update_loop ?_
    rw [Around.under_plainId
          PyProof.Rows.F.plain_set_update_loop _]
    show wpAny _ _ (pyNext (.ref I) >>= _) _ _ s
    refine wpAny_bind (W.done s _ _ st fun h' tk keep => ?_)
    show wpAny _ _ (ret
          Value.none) _ _ _
    refine wpAny_pure (q h' tk m ?_ le ?_ fun y o h1 _ h3 => keep y o h1 h3)
    · obtain ⟨o, es, ep, t, ho, rest⟩ := hS
      exact ⟨o, es, ep, t, keep S _ nW ho, rest⟩
    · rw [iff, List.take_of_length_le (by rw [len_cod]; exact Nat.le_refl _)]
  | succ k ih =>
    intro i m s e st hS le iff q
    have lt : i < x.cps.size := by omega
    have lx : x.length = x.cps.size := rfl
    refine codeAny_builtin
          PyProof.Rows.F.entry_set_update_loop ?_
    rw [Around.under_plainId
          PyProof.Rows.F.plain_set_update_loop _]
    show wpAny _ _ (pyNext (.ref I) >>= _) _ _ s
    refine wpAny_bind (W.item i s _ _ lt st fun v h' tk hv st2 keep => ?_)
    obtain ⟨c, u, hc, rfl⟩ := hv
    have hc2 : (cod x)[i]? = some c := by
      show x.cps.toList[i]? = some c
      rw [Array.getElem?_toList]
      exact hc
    have hS2 : h'.SetOf (PySem.strKind prog w) S (among (cod x) i) m := by
      obtain ⟨o, es, ep,
            t, ho, rest⟩ := hS
      exact ⟨o, es, ep, t, keep S _ nW ho, rest⟩
    show wpAny _ _ (holding [Value.str (sg c) u] (setAdd S (.str (sg c) u)) >>= _) _ _ _
    refine wpAny_bind
          (wpAny_holding ?_)
    unfold setAdd
    refine wpAny_holding ?_
    refine wpAny_bind ((PySem.strKind prog w).pyHash (k := sg c) (strKind_is _ _ _ _) ?_)
    refine wpAny_setAddHashed_of (knd := PySem.strKind prog w) (s := { s with heap := h', toks := tk + 1 }) (strKind_is _ _ _ _) rfl hS2 (by unfold scanBound; omega) fun h2 sb hS3 => ?_
    have step : h2.SetOf (PySem.strKind prog w) S (among (cod x) (i + 1)) (if among (cod x) i (sg c) then m else m + 1) := SetOf_congr hS3 (fun z => among_succ hc2 z) rfl
    have tk1 : (cod x).take (i + 1) = (cod x).take i ++ [c] := by rw [List.take_succ, hc2]; rfl
    refine wpAny_pure ⟨plainId_quiet PyProof.Rows.F.plain_set_update_loop _, ih (i + 1) _ _ (by omega) (W.frame _ _ _ st2 fun y hy o ey => ?_) step ?_ ?_ fun h3 t3 m3 e1 e2 e3 e4 => ?_⟩
    · exact (sb.2 y fun h : y = S => nS (h ▸ hy)).trans ey
    · split <;> omega
    · rw [tk1, List.nodup_append]
      cases ha : among (cod x) i (sg c) with
      | true =>
        have mem := among_iff.mp ha
        rw [if_pos rfl]
        refine ⟨fun z => by omega, fun z => absurd rfl (z.2.2 c mem c (by simp))⟩
      | false =>
        have mem : ¬ c ∈ (cod x).take i := fun z => by rw [among_iff.mpr z] at ha; cases ha
        rw [if_neg (by decide)]
        refine ⟨fun z => ⟨iff.mp (by omega), by simp, fun y hy z2 hz => ?_⟩, fun z => by rw [iff.mpr z.1]⟩
        rw [List.mem_singleton] at hz
        subst hz
        exact fun z3 => mem (z3 ▸ hy)
    · exact q h3 t3 m3 e1 e2 e3 fun y o h1 h3 h4 => e4 y o h1 h3 ((sb.2 y h3).trans (keep y o h1 h4))
end
section
variable {prog : Program} {w : World} {A : Around} {E : Value → Shared → Prop} {s : Shared} {x : Str} {u : Tok} {Q : Value → Shared → Prop}
theorem set_text (hh : A.handled = none) (small : x.length < 4000)
    (h : ∀ (h' : Heap) (tk m : Nat), h'.SetOf (PySem.strKind prog w) s.heap.objs.size (among (cod x) x.cps.size) m → m ≤ x.cps.size → (m = x.cps.size ↔ (cod x).Nodup) → (∀ b o, s.heap.get? b = some o → h'.get? b = some o) → Q (.ref s.heap.objs.size) { s with heap := h', toks := tk }) :
    wpAny (model prog w) A (call (.type "set") [.str x u]) Q E s := by
  obtain ⟨c, tl, order⟩ := PySem.F.called_set.mro
  have made := PySem.F.called_set.made
  have below := PySem.F.called_set.sub
  refine wpAny_call
        (codeAny_of_tree ?_)
  show wpAny _ _ (callAny
        (.type "set") _) _ _ _
  refine wpAny_pure ⟨Code.quiet_builtin _ (by
        decide +kernel), codeAny_builtin PySem.F.entry_type_call ?_⟩
  rw [Around.under_plain (weight_type_call_type "set" [.str x u] []) rfl]
  have no1 := PySem.F.called_set.notType
  have can := PySem.F.called_set.canCreate
  have ct := PySem.F.typeCall_set_1 (.str x u)
  repeat (any_goals (first
        | assumption | wp_step))
  refine codeAny_mono (code_set_new_1 (.str x u) (E := E) (Q₁ := fun obj s₁ => ∃ led : Bool, obj = .ref s.heap.objs.size ∧ s₁ = { s with heap := s.heap.push { cls := .type "set", dict := none, data := .set #[] 0 (.fresh 0 0 led) } }) fun led => ⟨led, rfl, rfl⟩) fun r s₁ hr => ?_
  cases r with
  | error e => exact hr
  | ok fl =>
    cases fl with
    | ret obj =>
      obtain ⟨led, rfl, rfl⟩ := hr
      have hS : (s.heap.push { cls := .type "set", dict := none, data := .set #[] 0 (.fresh 0 0 led) }).get? s.heap.objs.size
            = some { cls := .type "set", dict := none, data := .set #[] 0 (.fresh 0 0 led) } := Heap.get?_push_size _ rfl
      have hT : Shared.TypeIs { s with heap := (s.heap.push { cls := .type "set", dict := none, data := .set #[] 0 (.fresh 0 0 led) }) } (.ref s.heap.objs.size) "set" := ⟨_, hS, rfl⟩
      have lookI := PySem.F.called_set.init.lookup
      have bindI := PySem.F.called_set.init.bind (.ref s.heap.objs.size)
      repeat (any_goals (first
            | assumption | wp_step))
      refine codeAny_mono (codeAny_call_builtin (R := wants (fun r s₂ => r = .none ∧ ∃ h' tk m, s₂ = { s with heap := h', toks := tk } ∧ h'.SetOf (PySem.strKind prog w) s.heap.objs.size (among (cod x) x.cps.size) m ∧ m ≤ x.cps.size ∧ (m = x.cps.size ↔ (cod x).Nodup) ∧
          (∀ b o, s.heap.get? b = some o → h'.get? b = some o)) E) PySem.F.called_set.init.plain PySem.F.entry_set_init (check_set_init_1 hT ?_)) fun r₂ s₂ hr₂ => ?_
      · have n1 := PySem.F.sub_str_set
        have n2 := PySem.F.sub_str_frozenset
        have n3 : (Value.type "str" == Value.type "dict") = false := by decide
        unfold Builtin.«set.__init__»
              noKeywords Builtin.Frozenset.updateFrom
        generalize hPI : pyIter = PI
        wp_walk
        subst hPI
        refine wpAny_pyIter_str fun o St W st => ?_
        refine wpAny_bind
              (wpAny_runValue ?_)
        have eS : (s.heap.push { cls := .type "set", dict := none, data := .set #[] 0 (.fresh 0 0 led) }).objs.size = s.heap.objs.size + 1 := Heap.size_push _ _
        have get : ((s.heap.push { cls := .type "set", dict := none, data := .set #[] 0 (.fresh 0 0 led) }).push o).get? s.heap.objs.size = some { cls := .type "set", dict := none, data := .set #[] 0 (.fresh 0 0 led) } := Heap.get?_push_of_some _ hS
        have start : ((s.heap.push { cls := .type "set", dict := none, data := .set #[] 0 (.fresh 0 0 led) }).push o).SetOf (PySem.strKind prog w) s.heap.objs.size (among (cod x) 0) 0 := SetOf_congr ((PyProof.Rows.setObjOf_fresh (knd := PySem.strKind prog w) led).setOf get (by unfold scanBound; omega)) (fun _ => rfl) rfl
        refine set_turns (W _ (by simp [hh])) (fun z => ?_) small x.cps.size 0 0 _ (by rw [Nat.zero_add]) st start (Nat.le_refl _) ⟨fun _ => by simp, fun _ => rfl⟩ fun h' tk m e1 e2 e3 e4 => ?_
        · have e := List.mem_singleton.mp z
          rw [eS] at e
          exact Nat.succ_ne_self _ e.symm
        · show wpAny _ _ _ _ _ _
          refine wpAny_pure ?_
          show wpAny _ _ (ret
                Value.none) _ _ _
          refine wpAny_pure ⟨rfl, h', tk, m, rfl, e1, e2, e3, fun b o2 e => ?_⟩
          have lt := Heap.lt_size e
          refine e4 b o2 (fun z => ?_) (Nat.ne_of_lt lt) (Heap.get?_push_of_some _ (Heap.get?_push_of_some _ e))
          have e5 := List.mem_singleton.mp z
          rw [eS] at e5
          rw [e5] at lt
          exact Nat.lt_irrefl _ (Nat.lt_of_succ_lt lt)
      · cases r₂ with
        | error e => exact hr₂
        | ok fl₂ =>
          cases fl₂ with
          | ret r =>
            obtain ⟨rfl, h', tk, m, rfl, e1, e2, e3, e4⟩ := hr₂
            repeat (any_goals (first
                  | assumption | wp_step))
            exact h _ _ _ e1 e2 e3 e4
          | _ => exact hr₂.elim
    | _ => exact hr.elim
end
section
variable {X : Cx}
/-- len(set(text)): as many as the text has signs exactly if no sign stands twice -/
def tLenSetX (ta : TE) : TE := fun σ H Q => ta σ H fun v H1 => ∃ z : Str, v = .str z ∧ z.length < 4000 ∧ ∀ m : Nat, (m = z.length ↔ (cod z).Nodup) → Q (.int (m : Int)) H1
theorem pe_lenSetX {a : Expr} {ta : TE} {p p2 q pos : Pos} (hc : X.calm = true) (hg : Gl X "len") (hm : X.mg "len" = none) (hg2 : Gl X "set") (hm2 : X.mg "set" = none) (ha : PE X a ta)
    (na : starEach [a] X.env = (false, eval a X.env) :: starEach [] X.env := by rfl) : PE X (.Call (.Name "len" p) [.Call (.Name "set" p2) [a] [] q] [] pos) (tLenSetX ta) := by
  refine ⟨fun pins s σ H Q I h => ?_⟩
  refine Call_ (ld_blt
        I hg hm boot_len ?_)
  refine PyProof.Rows.callWith_builtin1
        (PyProof.Rows.args_cons ?_ rfl) rfl rfl
  refine Call_ (ld_blt
        I hg2 hm2 boot_set ?_)
  refine PyProof.Rows.callWith_type1 (PyProof.Rows.args_cons (thn (ha.run pins s σ H _ I h) fun v s1 ⟨x, H1, I1, r1, z, e, small, q1⟩ => PyProof.Rows.args_nil ?_) na) na rfl
  subst e
  obtain ⟨t, rfl⟩ := r1
  refine set_text (I1.ok.hd hc) small fun h' tk m hS le iff keep => ?_
  refine
        PyProof.Rows.args_nil ?_
  obtain ⟨o, es, ep, t2, ho, hex, hd, _, _, _, hf, hn⟩ := hS
  have I2 : Inv X pins σ H1 { s1 with heap := h', toks := tk } := I1.kept keep
  have lz : z.length = z.cps.size := rfl
  refine call_len_set ho hex hd hf (by rw [hn]; omega) ⟨.int m, H1, I2.tok _, ⟨_, by rw [hn]⟩, q1 m iff⟩
end
end XT
end
section
set_option Elab.async false
set_option linter.all false
set_option maxRecDepth 100000
set_option maxHeartbeats 4100000
namespace LA
open PySem L2 XS XT
abbrev sLetter : Stmt := top 13
abbrev sLine : Stmt := top 14
/-- a branch that is never gone -/
theorem pss_never {X : Cx} {ss : List Stmt} : PSs X ss (fun _ _ _ => False) := ⟨fun _ _ _ _ _ _ h => h.elim⟩
/-- what the program's modules give -/
structure PkT (mg : Str → Option Value) (t1 t2 t3 : Tok) : Prop where
  len : mg "len" = none
  set : mg "set" = none
  all : mg "all" = none
  ord : mg "ord" = none
  isM : mg "isinstance" = none
  str : mg "str" = none
  first : mg "FIRST_LETTER" = some (.int 32 t1)
  last : mg "LAST_LETTER" = some (.int 126 t2)
  per : mg "PERCENT_SIGN" = some (.int 37 t3)
def lineB (z : Str) : Bool := (cod z).all fun c => decide (Lt c)
section
variable {P : Program} {w : World} {K : PySem.W.Frag} {mg : Str → Option Value} {base : Heap} {t1 t2 t3 : Tok}
structure CallOf (P : Program) (w : World) (K : PySem.W.Frag) (mg : Str → Option Value) (base : Heap) (k : Nat) (x : Str) (ps : List Str) (sp : Sp) (f : Addr) (fd : FuncData) : Prop where
  ok : FnOk P w K mg base CX0 k f fd ps sp
  m : mg x = some (.ref f)
  k : PySem.W.keepIn K (.ref f) = true
  b : Binds K fd ps []
/-- is_letter of a text of one sign -/
def spLetter : Sp := fun vs H Q _ => ∃ c, vs = [.str (sg c)] ∧ Q (.bl (decide (Lt c))) H
theorem scLe : FnScope ["character", "code"] ["character"] (defScope sLetter) := ⟨rfl, rfl, rfl, by decide +kernel, rfl, by decide +kernel, by decide +kernel⟩
theorem ok_letter {f : Addr} {fd : FuncData} (F : Fun K "is_letter" "is_letter" sLetter f fd) (T : PkT mg t1 t2 t3) : FnOk P w K mg base CX0 1 f fd ["character"] spLetter := by
  refine F.ok scLe (fun vs H Q E h => ?_) (fun cdv A outer s H vs Q E hr h => ?_)
  · obtain ⟨c, rfl, _⟩ := h
    rfl
  · obtain ⟨c, rfl, q⟩ := h
    refine ⟨_, pss_cons (by exact (ps_set (i := 1) scLe.nd rfl (.inl rfl) (pe_callB call_ord (by rfl) T.ord (by decide +kernel) (pa_cons (pv 0) pa_nil)))) (
      pss_one (by exact (ps_ret (pe_and (pe_chain op_le op_le (pe_glob (v := .int 32) rfl T.first ⟨_, rfl⟩) (pv 1) (pe_glob (v := .int 126) rfl T.last ⟨_, rfl⟩)) (pe_one (pe_cmpR op_ne (pv 1) (pe_glob (v := .int 37) rfl T.per ⟨_, rfl⟩) (nomark _))))))), ?_⟩
    refine ⟨_, rfl, _, rfl, rfl, ?_⟩
    have e0 : (((sg c).cps.getD 0 0 : Nat) : Int) = (c : Int) := rfl
    rw [e0]
    refine ⟨_, rfl, _, _, rfl, rfl, _, rfl, ?_⟩
    by_cases h1 : (32 : Int) ≤ (c : Int)
    · rw [decide_eq_true h1]
      refine iteT ?_
      refine ⟨_, _, rfl, rfl, _, rfl, ?_⟩
      by_cases h2 : (c : Int) ≤ 126
      · rw [decide_eq_true h2]
        refine iteT ?_
        refine ⟨_, rfl, rfl, ?_⟩
        have e : (!decide (V.int (c : Int) = V.int 37)) = decide (Lt c) := by
          by_cases h3 : c = 37
          · subst h3
            decide
          · rw [decide_eq_false (fun z => h3 (by injection z; omega))]
            exact (decide_eq_true ⟨by omega, by omega, h3⟩).symm
        rw [e]
        exact q
      · rw [decide_eq_false h2]
        refine iteF ?_
        have e : decide (Lt c) = false := decide_eq_false (fun z => h2 (by have := z.2.1; omega))
        rw [e] at q
        exact q
    · rw [decide_eq_false h1]
      refine iteF ?_
      refine ⟨_, rfl, ?_⟩
      refine iteF ?_
      have e : decide (Lt c) = false := decide_eq_false (fun z => h1 (by have := z.1; omega))
      rw [e] at q
      exact q
/-- is_line of any value -/
def spLine (K : PySem.W.Frag) : Sp := fun vs H Q _ => ∃ x, vs = [x] ∧ ((∃ z : Str, x = .str z ∧ z.length < 1000000 ∧ ∀ H', Same H H' → Q (.bl (lineB z)) H') ∨
  ((∀ z, x ≠ .str z) ∧ (∃ t, TyX K H x t ∧ PySem.W.kitOne K t (.type "str") = some false) ∧ Q (.bl false) H))
theorem scLi : FnScope ["value", "character"] ["value"] (defScope sLine) := ⟨rfl, rfl, rfl, by decide +kernel, rfl, by decide +kernel, by decide +kernel⟩
theorem ok_line {f f1 : Addr} {fd fd1 : FuncData} (F : Fun K "is_line" "is_line" sLine f fd) (T : PkT mg t1 t2 t3) (M : CallOf P w K mg base 1 "is_letter" ["character"] spLetter f1 fd1) : FnOk P w K mg base CX0 2 f fd ["value"] (spLine K) := by
  refine F.ok scLi (fun vs H Q E h => ?_) (fun cdv A outer s H vs Q E hr h => ?_)
  · obtain ⟨x, rfl, _⟩ := h
    rfl
  · obtain ⟨x, rfl, q⟩ := h
    refine ⟨_, pss_one (by exact (ps_ret (pe_and (pe_callB call_isi (by rfl) T.isM (by decide +kernel) (pa_cons (pv 0) (pa_cons (pe_bltn (v := .ty "str") (by rfl) T.str (by decide +kernel) rfl) pa_nil)))
      (pe_one (pe_callB (cr_all rfl) (by rfl) T.all (by decide +kernel) (pa_cons (pe_lc (own := [("character", 1)]) (g := gName 1) (tt := tYes) (te := tCall spLetter [] (fun _ _ _ => False) (tCons (tVar 1) tNil)) rfl scLi.nd (pi_str (pv 0))
        (blkOk_by (N := ["value", "character"]) (sc := defScope sLine) (by decide +kernel))
        (fun _ _ _ _ _ => by exact (pg_name (i := 1) scLi.nd rfl (Or.inl rfl)))
        (fun _ _ _ _ _ => by exact pts_nil)
        (fun _ _ _ _ _ => by exact (pe_call M.ok hr rfl M.m M.k M.b .nil pass0 (pa_cons (pv 1) pa_nil)))) pa_nil)))))), ?_⟩
    refine ⟨_, rfl, ?_⟩
    rcases q with ⟨z, rfl, small, q⟩ | ⟨nz, ⟨t, ty, ki⟩, q⟩
    · refine ⟨_, _, _, _, true, rfl, .ty _, .base (.str _), kit_ty (by decide +kernel), _, rfl, ?_⟩
      refine iteT ?_
      refine ⟨_, rfl, z, rfl, fun D nD => ?_⟩
      refine lc_it walk_str (fun i G => G D = some (.lst (((cod z).take i).map fun c => V.bl (decide (Lt c)))) ∧ Same H G) ⟨upd_same, same_upd nD⟩ (fun _ _ _ _ => True.intro) (fun i x G G' hi p y => ?_) (fun G p => ?_)
      · obtain ⟨pD, pS⟩ := p
        obtain ⟨rfl, c, hc, rfl⟩ := y
        have hc2 : (cod z)[i]? = some c := by
          show z.cps.toList[i]? = some c
          rw [Array.getElem?_toList]
          exact hc
        refine ⟨rfl, ?_⟩
        dsimp only [tYes]
        rw [if_pos rfl]
        refine ⟨_, rfl, c, rfl, _, pD, ?_, ?_, ?_⟩
        · rw [List.length_map, List.length_take]
          exact Nat.lt_of_le_of_lt (Nat.min_le_right _ _) (by rw [len_cod]; exact Nat.lt_trans small (by decide))
        · rw [List.take_succ, hc2, List.map_append]
          exact upd_same
        · intro b o e
          rw [upd_ne]
          · exact pS b o e
          · exact ne_of_none e nD
      · obtain ⟨pD, pS⟩ := p
        refine ⟨_, ((cod z).map fun c => decide (Lt c)), rfl, ?_, ?_⟩
        · have e : ((cod z).take z.cps.size) = cod z := List.take_of_length_le (by rw [len_cod]; exact Nat.le_refl _)
          rw [e] at pD
          rw [List.map_map]
          exact SqL.of pD
        · have e : ((cod z).map fun c => decide (Lt c)).all id = lineB z := by
            unfold lineB
            rw [List.all_map]
            rfl
          rw [e]
          exact q G pS
    · refine ⟨_, _, _, _, false, rfl, .ty _, ty, ki, _, rfl, ?_⟩
      exact iteF q
end
abbrev sIsText : Stmt := top 15
abbrev sChkT : Stmt := top 16
abbrev sIsInt : Stmt := top 18
abbrev sCounting : Stmt := top 19
abbrev sIsBlock : Stmt := top 21
abbrev sLenOf : Stmt := top 22
abbrev sEnds : Stmt := top 29
open LM
/-- a block that is right -/
structure Vb (b : Bk Str) : Prop where
  l1 : 1 ≤ b.1.length
  l4 : b.1.length ≤ 100
  t1 : 1 ≤ b.2
  t30 : b.2 ≤ 10 ^ 30
  ok : ∀ z ∈ b.1, lineB z = true ∧ z.length ≤ 30
/-- the law's block: a tuple of a list and a number -/
def BkL (H : Hp) (b : Bk Str) (v : V) : Prop := ∃ t a, v = .ref t ∧ H t = some (.tup [.ref a, .int (b.2 : Int)]) ∧ H a = some (.lst (b.1.map V.str))
/-- the program's: of a tuple and a number -/
def BkT (H : Hp) (b : Bk Str) (v : V) : Prop := ∃ t a, v = .ref t ∧ H t = some (.tup [.ref a, .int (b.2 : Int)]) ∧ H a = some (.tup (b.1.map V.str))
theorem BkL.same {H H' : Hp} (s : Same H H') {b : Bk Str} {v : V} (h : BkL H b v) : BkL H' b v := by
  obtain ⟨t, a, e, h1, h2⟩ := h
  exact ⟨t, a, e, s _ _ h1, s _ _ h2⟩
theorem BkT.same {H H' : Hp} (s : Same H H') {b : Bk Str} {v : V} (h : BkT H b v) : BkT H' b v := by
  obtain ⟨t, a, e, h1, h2⟩ := h
  exact ⟨t, a, e, s _ _ h1, s _ _ h2⟩
theorem pair_same {α : Type} {R : Hp → α → V → Prop} (mono : ∀ (H H' : Hp) (b : α) (v : V), Same H H' → R H b v → R H' b v) {H H' : Hp} (s : Same H H') : ∀ {bs : List α} {vs : List V}, Paired (fun b v => R H b v) bs vs → Paired (fun b v => R H' b v) bs vs
  | _, _, .nil => .nil
  | _, _, .cons a b => .cons (mono _ _ _ _ s a) (pair_same mono s b)
theorem pair_at {α β : Type} {R : α → β → Prop} : ∀ {bs : List α} {vs : List β} {i : Nat} {v : β}, Paired R bs vs → vs[i]? = some v → ∃ b, bs[i]? = some b ∧ R b v
  | _, _, i, v, .nil, h => by simp at h
  | _, _, 0, v, .cons a b, h => by
    rw [List.getElem?_cons_zero] at h
    cases h
    exact ⟨_, rfl, a⟩
  | _, _, i + 1, v, .cons a b, h => by
    rw [List.getElem?_cons_succ] at h ⊢
    exact pair_at b h
theorem pair_at2 {α β : Type} {R : α → β → Prop} : ∀ {bs : List α} {vs : List β} {i : Nat} {b : α}, Paired R bs vs → bs[i]? = some b → ∃ v, vs[i]? = some v ∧ R b v
  | _, _, i, v, .nil, h => by simp at h
  | _, _, 0, v, .cons a b, h => by
    rw [List.getElem?_cons_zero] at h
    cases h
    exact ⟨_, rfl, a⟩
  | _, _, i + 1, v, .cons a b, h => by
    rw [List.getElem?_cons_succ] at h ⊢
    exact pair_at2 b h
theorem pair_len {α β : Type} {R : α → β → Prop} : ∀ {bs : List α} {vs : List β}, Paired R bs vs → bs.length = vs.length
  | _, _, .nil => rfl
  | _, _, .cons _ b => congrArg Nat.succ (pair_len b)
theorem pair_app {α β : Type} {R : α → β → Prop} : ∀ {bs cs : List α} {vs ws : List β}, Paired R bs vs → Paired R cs ws → Paired R (bs ++ cs) (vs ++ ws)
  | _, _, _, _, .nil, b => b
  | _, _, _, _, .cons a r, b => .cons a (pair_app r b)
/-- how many lines blocks write, told by sums -/
theorem len_wr {α : Type} : ∀ bs : List (Bk α), (wr bs).length = (bs.map fun b => b.1.length * b.2).sum
  | [] => rfl
  | b :: bs => by
    rw [wr_cons, List.length_append, len_one, len_wr bs]
    rfl
theorem rows_small {n : Nat} (h : n ≤ 100) : ((n : Nat) : Int).natAbs < 2 ^ 7 := by
  show n < 128
  omega
theorem times_small {n : Nat} (h : n ≤ 10 ^ 30) : ((n : Nat) : Int).natAbs < 2 ^ 100 := by
  show n < 2 ^ 100
  exact Nat.lt_of_le_of_lt h (by decide)
end LA
end
section
set_option Elab.async false
set_option linter.all false
set_option maxRecDepth 100000
set_option maxHeartbeats 4100000
namespace XK
open PySem PySem.Spec PyProof.Rows L2
/-! ### xs == [] and xs != [], whatever the list holds -/
section
variable {X : Cx}
def rNil (K : PySem.W.Frag) (neg : Bool) : R2 := fun x y H Q => ∃ (a b : Addr) (xs : List V), x = .ref a ∧ y = .ref b ∧ SqL K H a xs ∧ SqL K H b [] ∧ a ≠ b ∧ Q (.bl (xs.isEmpty != neg)) H
theorem nil_sides {pins : List (Addr × Obj)} {σ : L2.St} {H : Hp} {s : Shared} {a b : Addr} {xs : List V} (I : Inv X pins σ H s) (ha : SqL X.K H a xs) (hb : SqL X.K H b []) :
    ∃ us : Array Value, s.heap.IsList a us ∧ s.heap.IsList b #[] ∧ (us.size = 0 ↔ xs = []) := by
  obtain ⟨us, r1, l1, _⟩ := I.list ha
  obtain ⟨ws, r2, l2, _⟩ := I.list hb
  cases r2
  refine ⟨us.toArray, l1.isList, l2.isList, ?_⟩
  rw [List.size_toArray, ← r1.length]
  exact ⟨List.eq_nil_of_length_eq_zero, fun e => by rw [e]; rfl⟩
theorem op_eqNil (hu : X.A.units + 64 < cLine) : OpR X (compareOp .Eq) (rNil X.K false) := by
  intro pins s σ H x y v u Q I rx ry h
  obtain ⟨a, b, xs, rfl, rfl, ha, hb, ne, q⟩ := h
  cases rx
  cases ry
  obtain ⟨us, l1, l2, e⟩ := nil_sides I ha hb
  by_cases hs : us.size = 0
  · have ex := e.mp hs
    subst ex
    refine SeqAt.eq_listAt (e := fun _ => true) l1 l2 hs (by omega) (fun j h1 _ => absurd h1 (by omega)) ⟨.bl true, H, I, ?_, q⟩
    rw [hs]
    rfl
  · have nx : xs ≠ [] := fun z => hs (e.mpr z)
    refine SeqAt.eq_list_lengthsAt l1 l2 (bne_iff_ne.mpr hs) (by omega) ⟨.bl false, H, I, rfl, ?_⟩
    cases xs with
    | nil => exact absurd rfl nx
    | cons x0 xr => exact q
theorem op_neNil (hu : X.A.units + 64 < cLine) : OpR X (compareOp .NotEq) (rNil X.K true) := by
  intro pins s σ H x y v u Q I rx ry h
  obtain ⟨a, b, xs, rfl, rfl, ha, hb, ne, q⟩ := h
  cases rx
  cases ry
  obtain ⟨us, l1, l2, e⟩ := nil_sides I ha hb
  by_cases hs : us.size = 0
  · have ex := e.mp hs
    subst ex
    refine SeqAt.RcNeAt.lists (e := fun _ => true) l1 l2 hs (by omega) (fun j h1 _ => absurd h1 (by omega)) X.prog X.w _ _ ⟨.bl false, H, I, ?_, q⟩
    rw [hs]
    rfl
  · have nx : xs ≠ [] := fun z => hs (e.mpr z)
    refine SeqAt.RcNeAt.lists_lengths l1 l2 (bne_iff_ne.mpr hs) (by omega) X.prog X.w _ _ ⟨.bl true, H, I, rfl, ?_⟩
    cases xs with
    | nil => exact absurd rfl nx
    | cons x0 xr => exact q
end
end XK
end
section
set_option Elab.async false
set_option linter.all false
set_option maxRecDepth 100000
set_option maxHeartbeats 4100000
namespace XL
open PySem PySem.Spec PyProof.Rows L2 LamX XK
/-! ### a lambda kept as a value -/
/-- the very object at f -/
def FixO (ob : Obj) (f : Addr) : HO := .ext fun h => h.get? f = some ob
theorem fix_ok {P : Program} {w : World} {H : Hp} {h : Heap} {f : Addr} {ob : Obj} (e : h.get? f = some ob) : ObjOk P w H h f (FixO ob f) := ⟨e, ⟨_, e⟩, fun _ _ a b => b _ a⟩
/-- at f is the lambda with these parameters, this body and these cells -/
def IsLam (q : Str) (params : Arguments) (body : Expr) (scope : Scope) (cl : List (Str × Addr)) (H : Hp) (f : Addr) : Prop :=
  ∃ (c' : Addr) (pm ctv : Value), H f = some (FixO (PySem.W.kla_obj "<lambda>" q params body scope cl pm c' ctv) f) ∧ H c' = some (CodeO c' q)
theorem IsLam.keep {q : Str} {params : Arguments} {body : Expr} {scope : Scope} {cl : List (Str × Addr)} {H H' : Hp} {f : Addr} (h : IsLam q params body scope cl H f) (e : ∀ b o, H b = some o → (∃ φ, o = .ext φ) → H' b = some o) : IsLam q params body scope cl H' f := by
  obtain ⟨c', pm, ctv, h1, h2⟩ := h
  exact ⟨c', pm, ctv, e _ _ h1 ⟨_, rfl⟩, e _ _ h2 ⟨_, rfl⟩⟩
section
variable {X : Cx} {pins : List (Addr × Obj)} {σ : L2.St} {H : Hp} {s : Shared}
/-- lambda: body, made: the function is new and known, its code object is new or was known -/
theorem lam_kept {T : List (Addr × Str)} {c P : Addr} {params : Arguments} {body : Expr} {scope : Scope} {pos : Pos} {E : Value → Shared → Prop} {Q : Value → Shared → Prop} (I : Inv X pins σ H s) (TB : TabB X.base X.mg c P) (hcode : X.env.code = .ref c)
    (here : (P, X.env.qual ++ "<lambda>") ∈ T) (one : ∀ p ∈ T, p.1 = P → p.2 = X.env.qual ++ "<lambda>") (hT : Tabs T H) (nodef : defaultsOf params X.env = ([], [])) (caught : ∀ y ∈ scope.names, y.2 = .free → ∃ c, X.env.cells.lookup y.1 = some c)
    (go : ∀ (f : Addr) (H1 : Hp) (s' : Shared), Inv X pins σ H1 s' → ExtN H H1 → Tabs T H1 → H f = none → IsLam (X.env.qual ++ "<lambda>") params body scope (cloFrom X.env.cells scope.names []) H1 f → Q (.ref f) s') :
    wpAny (model X.prog X.w) X.A (eval (.Lambda params body scope pos) X.env) Q E s := by
  obtain ⟨ps, hP, three, among⟩ := hT _ here
  have tabAt : s.heap.get? P = some { cls := .none, data := .fields ps } := I.hok P _ hP
  have bP : s.heap.BuiltinsAt X.mg P := TB.bm.keeps I.bk
  refine PySem.W.kla_eval nodef ?_
  cases hit : codeAmong pos ps.toList with
  | some cv =>
    obtain ⟨c', rfl, hco⟩ := among pos cv hit
    refine PySem.W.kla_makeFunctionHit (mg := X.mg) (c := c) (P := P) (ps := ps) (closure_ok caught) I.ok.glob (I.mod.glob.keeps I.bk) hcode (TB.code.keeps I.bk) tabAt three hit bP fun ctv h' tk old big => ?_
    have nf : H h'.objs.size = none := I.hok.fresh big
    have neC : c' ≠ h'.objs.size := ne_of_none hco nf
    have neP : ∀ p ∈ T, p.1 ≠ h'.objs.size := fun p hp => by
      obtain ⟨_, a1, _⟩ := hT p hp
      exact ne_of_none a1 nf
    have J : Inv X pins σ (upd H h'.objs.size (FixO (PySem.W.kla_obj "<lambda>" (X.env.qual ++ "<lambda>") params body scope (cloFrom X.env.cells scope.names []) ((X.mg "__name__").getD .none) c' ctv) h'.objs.size)) _ :=
      I.laid (t' := tk) (h' := h'.push (PySem.W.kla_obj "<lambda>" (X.env.qual ++ "<lambda>") params body scope (cloFrom X.env.cells scope.names []) ((X.mg "__name__").getD .none) c' ctv)) (fun b u e => Heap.get?_push_of_some _ (old b u e)) big (fix_ok (Heap.get?_push_size _ rfl))
    have ext : ∀ b o, H b = some o → upd H h'.objs.size (FixO (PySem.W.kla_obj "<lambda>" (X.env.qual ++ "<lambda>") params body scope (cloFrom X.env.cells scope.names []) ((X.mg "__name__").getD .none) c' ctv) h'.objs.size) b = some o := fun b o e => by
      rw [upd_ne (ne_of_none e nf)]
      exact e
    exact go _ _ _ J (.of ext) (hT.ext ext) nf ⟨c', _, ctv, upd_same, ext _ _ hco⟩
  | none =>
    refine PySem.W.kla_makeFunction (mg := X.mg) (c := c) (P := P) (ps := ps) (closure_ok caught) I.ok.glob (I.mod.glob.keeps I.bk) hcode (TB.code.keeps I.bk) tabAt three hit TB.gP bP fun c' ctv h' tk old hge hlt rec htb => ?_
    obtain ⟨c2, oc, vs, t, e2, hoc, hd, hv⟩ := rec
    cases e2
    have nC : H c' = none := I.hok.fresh hge
    have big : s.heap.objs.size ≤ h'.objs.size := Nat.le_trans hge (Nat.le_of_lt hlt)
    have I1 := inv_table (t' := tk) (more := #[rawInt pos.line, rawInt pos.col, .ref c']) (h' := h') I hP old htb hge ⟨oc, vs, t, hoc, hd, hv⟩
    have nf : H h'.objs.size = none := I.hok.fresh big
    have neC : c' ≠ h'.objs.size := Nat.ne_of_lt hlt
    have atP : P ≠ c' := ne_of_none hP nC
    have neP : P ≠ h'.objs.size := ne_of_none hP nf
    generalize hob : PySem.W.kla_obj "<lambda>" (X.env.qual ++ "<lambda>") params body scope (cloFrom X.env.cells scope.names []) ((X.mg "__name__").getD .none) c' ctv = ob
    have J : Inv X pins σ (upd (upd (upd H P (.tbl (ps ++ #[rawInt pos.line, rawInt pos.col, .ref c']))) c' (CodeO c' (X.env.qual ++ "<lambda>"))) h'.objs.size (FixO ob h'.objs.size)) { s with heap := h'.push ob, toks := tk } :=
      I1.laid (t' := tk) (h' := h'.push ob) (fun b u e => Heap.get?_push_of_some _ e) (Nat.le_refl _) (fix_ok (Heap.get?_push_size _ (by rw [← hob]; rfl)))
    generalize hZ : upd (upd (upd H P (.tbl (ps ++ #[rawInt pos.line, rawInt pos.col, .ref c']))) c' (CodeO c' (X.env.qual ++ "<lambda>"))) h'.objs.size (FixO ob h'.objs.size) = Z at J
    have kN : ExtN H Z := fun b o e n => by
      have b1 : b ≠ P := fun z => n ps (Option.some.inj (e.symm.trans (by rw [z]; exact hP)))
      rw [← hZ, upd_ne (ne_of_none e nf), upd_ne (ne_of_none e nC), upd_ne b1]
      exact e
    have zC : Z c' = some (CodeO c' (X.env.qual ++ "<lambda>")) := by rw [← hZ, upd_ne neC, upd_same]
    have zP : Z P = some (.tbl (ps ++ #[rawInt pos.line, rawInt pos.col, .ref c'])) := by rw [← hZ, upd_ne neP, upd_ne atP, upd_same]
    refine go _ Z _ J kN (fun p hp => ?_) nf ⟨c', _, ctv, by rw [← hZ, upd_same, ← hob], zC⟩
    by_cases hb : p.1 = P
    · rw [one p hp hb, hb]
      refine ⟨_, zP, by
        rw [show (ps ++ #[rawInt pos.line, rawInt pos.col, .ref c']).toList = ps.toList ++ [rawInt pos.line, rawInt pos.col, .ref c'] by simp]
        exact PySem.TriplesOk_snoc _ _ _ _ three, fun p' cv hcv => ?_⟩
      rw [show (ps ++ #[rawInt pos.line, rawInt pos.col, .ref c']).toList = ps.toList ++ [rawInt pos.line, rawInt pos.col, .ref c'] by simp] at hcv
      rcases among_app _ three hcv with z | z
      · obtain ⟨c0, e1, e2⟩ := among p' cv z
        exact ⟨c0, e1, kN _ _ e2 codeO_ne⟩
      · exact ⟨c', z, zC⟩
    · obtain ⟨qs, a1, a2, a3⟩ := hT p hp
      refine ⟨qs, ?_, a2, fun p' cv hcv => ?_⟩
      · rw [← hZ, upd_ne (ne_of_none a1 nf), upd_ne (ne_of_none a1 nC), upd_ne hb]
        exact a1
      · obtain ⟨c0, e1, e2⟩ := a3 p' cv hcv
        exact ⟨c0, e1, kN _ _ e2 codeO_ne⟩
end
/-- lambda: body, as a value -/
def tMk (T : List (Addr × Str)) (q : Str) (params : Arguments) (body : Expr) (scope : Scope) (cl : List (Str × Addr)) : TE := fun _ H Q =>
  Tabs T H ∧ ∀ (f : Addr) (H1 : Hp), ExtN H H1 → Tabs T H1 → H f = none → IsLam q params body scope cl H1 f → Q (.ref f) H1
/-- what the making of lambdas asks of the def -/
structure Maker (X : Cx) (T : List (Addr × Str)) (c P : Addr) : Prop where
  tb : TabB X.base X.mg c P
  code : X.env.code = .ref c
  here : (P, X.env.qual ++ "<lambda>") ∈ T
  one : ∀ p ∈ T, p.1 = P → p.2 = X.env.qual ++ "<lambda>"
theorem pe_mk {X : Cx} {T : List (Addr × Str)} {c P : Addr} {params : Arguments} {body : Expr} {scope : Scope} {pos : Pos} (M : Maker X T c P) (L : LamS X.env.scope scope) (nodef : defaultsOf params X.env = ([], [])) :
    PE X (.Lambda params body scope pos) (tMk T (X.env.qual ++ "<lambda>") params body scope (cloFrom X.env.cells scope.names [])) := by
  refine ⟨fun pins s σ H Q I h => ?_⟩
  obtain ⟨hT, h⟩ := h
  exact lam_kept I M.tb M.code M.here M.one hT nodef (L.has I.ok) fun f H1 s' I1 x1 x2 x3 x4 => ⟨.ref f, H1, I1, rfl, h f H1 x1 x2 x3 x4⟩
end XL
end
section
set_option Elab.async false
set_option linter.all false
set_option maxRecDepth 100000
set_option maxHeartbeats 4100000
namespace LA
open PySem L2 XS XT LM XK LamX
/-! ### values by what they are -/
structure OkS (z : Str) : Prop where
  few : z.length ≤ 30
  ch : ∀ c ∈ cod z, c < 1114112
mutual
/-- v is the value d, laid at addresses that N allows -/
inductive Dz (N : Addr → Prop) (H : Hp) : V → PyData → Prop
  | non : Dz N H .non .none
  | bl (b : Bool) : Dz N H (.bl b) (.bool b)
  | int (i : Int) : Dz N H (.int i) (.int i)
  | str {z : Str} (h : OkS z) : Dz N H (.str z) (.str z)
  | lst {a : Addr} {xs : List V} {ds : List PyData} (n : N a) (h : H a = some (.lst xs)) (few : xs.length ≤ 1000) (r : DzAll N H xs ds) : Dz N H (.ref a) (.list ds)
  | tup {a : Addr} {xs : List V} {ds : List PyData} (n : N a) (h : H a = some (.tup xs)) (few : xs.length ≤ 1000) (r : DzAll N H xs ds) : Dz N H (.ref a) (.tuple ds)
  | emp {a : Addr} (n : N a) (h : H a = some (.dK [])) : Dz N H (.ref a) (.dict [])
  | one {a : Addr} (n : N a) (h : H a = some (.dK [(Sum.inr "a", .str "b")])) : Dz N H (.ref a) (.dict [(.str "a", .str "b")])
inductive DzAll (N : Addr → Prop) (H : Hp) : List V → List PyData → Prop
  | nil : DzAll N H [] []
  | cons {v : V} {vs : List V} {d : PyData} {ds : List PyData} (a : Dz N H v d) (r : DzAll N H vs ds) : DzAll N H (v :: vs) (d :: ds)
end
/-- objects of these kinds stay as they are at the addresses that N allows -/
def Keeps (N : Addr → Prop) (H H' : Hp) : Prop := ∀ b o, N b → H b = some o → (∀ ps, o ≠ .tbl ps) → H' b = some o
mutual
theorem Dz.keep {N M : Addr → Prop} {H H' : Hp} (k : Keeps N H H') (im : ∀ a, N a → M a) : ∀ (d : PyData) (v : V), Dz N H v d → Dz M H' v d
  | .none, _, h => by
    cases h
    exact .non
  | .bool _, _, h => by
    cases h
    exact .bl _
  | .int _, _, h => by
    cases h
    exact .int _
  | .str _, _, h => by
    cases h with
    | str a => exact .str a
  | .list ds, _, h => by
    cases h with
    | lst n e f r => exact .lst (im _ n) (k _ _ n e (fun _ z => by cases z)) f (DzAll.keep k im ds _ r)
  | .tuple ds, _, h => by
    cases h with
    | tup n e f r => exact .tup (im _ n) (k _ _ n e (fun _ z => by cases z)) f (DzAll.keep k im ds _ r)
  | .dict _, _, h => by
    cases h with
    | emp n e => exact .emp (im _ n) (k _ _ n e (fun _ z => by cases z))
    | one n e => exact .one (im _ n) (k _ _ n e (fun _ z => by cases z))
theorem DzAll.keep {N M : Addr → Prop} {H H' : Hp} (k : Keeps N H H') (im : ∀ a, N a → M a) : ∀ (ds : List PyData) (vs : List V), DzAll N H vs ds → DzAll M H' vs ds
  | [], _, h => by
    cases h
    exact .nil
  | d :: ds, _, h => by
    cases h with
    | cons a r => exact .cons (Dz.keep k im d _ a) (DzAll.keep k im ds _ r)
end
theorem Keeps.same {N : Addr → Prop} {H H' : Hp} (s : Same H H') : Keeps N H H' := fun b o _ e _ => s _ _ e
theorem Keeps.but {N : Addr → Prop} {H H' : Hp} {d : Addr} (b : But d H H') (ne : ¬ N d) : Keeps N H H' := fun a o n e _ => b _ _ e fun z => ne (by rw [← z]; exact n)
theorem Keeps.ext {N : Addr → Prop} {H H' : Hp} (x : ExtN H H') : Keeps N H H' := fun a o _ e t => x a o e t
theorem Dz.same {N : Addr → Prop} {H H' : Hp} (s : Same H H') {v : V} {d : PyData} (h : Dz N H v d) : Dz N H' v d := h.keep (Keeps.same s) (fun _ z => z) d v
theorem Dz.but {N : Addr → Prop} {H H' : Hp} {c : Addr} (b : But c H H') (ne : ¬ N c) {v : V} {d : PyData} (h : Dz N H v d) : Dz N H' v d := h.keep (Keeps.but b ne) (fun _ z => z) d v
theorem Dz.ext {N : Addr → Prop} {H H' : Hp} (x : ExtN H H') {v : V} {d : PyData} (h : Dz N H v d) : Dz N H' v d := h.keep (Keeps.ext x) (fun _ z => z) d v
theorem Dz.imp {N M : Addr → Prop} {H : Hp} (im : ∀ a, N a → M a) {v : V} {d : PyData} (h : Dz N H v d) : Dz M H v d := h.keep (fun _ _ _ e _ => e) im d v
theorem DzAll.at_ {N : Addr → Prop} {H : Hp} : ∀ {vs : List V} {ds : List PyData} {i : Nat} {v : V}, DzAll N H vs ds → vs[i]? = some v → ∃ d, ds[i]? = some d ∧ Dz N H v d
  | _, _, i, v, .nil, h => by simp at h
  | _, _, 0, v, .cons a r, h => by
    rw [List.getElem?_cons_zero] at h
    cases h
    exact ⟨_, rfl, a⟩
  | _, _, i + 1, v, .cons a r, h => by
    rw [List.getElem?_cons_succ] at h ⊢
    exact DzAll.at_ r h
theorem DzAll.len {N : Addr → Prop} {H : Hp} : ∀ {vs : List V} {ds : List PyData}, DzAll N H vs ds → vs.length = ds.length
  | _, _, .nil => rfl
  | _, _, .cons _ r => congrArg Nat.succ (DzAll.len r)
/-- the name of its type -/
def tyD : PyData → String
  | .none => "NoneType"
  | .bool _ => "bool"
  | .int _ => "int"
  | .str _ => "str"
  | .list _ => "list"
  | .tuple _ => "tuple"
  | .dict _ => "dict"
theorem Dz.ty {K : PySem.W.Frag} {N : Addr → Prop} {H : Hp} : ∀ {v : V} {d : PyData}, Dz N H v d → TyX K H v (.type (tyD d))
  | _, _, .non => .base .non
  | _, _, .bl b => .base (.bl b)
  | _, _, .int i => .base (.int i)
  | _, _, .str _ => .base (.str _)
  | _, _, .lst _ h _ _ => .base (.lst h)
  | _, _, .tup _ h _ _ => .base (.tup h)
  | _, _, .emp _ h => .base (.dK h)
  | _, _, .one _ h => .base (.dK h)
def lineD : PyData → Bool
  | .str z => lineB z
  | _ => false
def itemsD : PyData → Option (List PyData)
  | .list ds => some ds
  | .tuple ds => some ds
  | _ => none
def txtD (d : PyData) : Bool := match itemsD d with
  | some ds => ds.all lineD
  | none => false
def intD : PyData → Option Int
  | .int k => some k
  | _ => none
def numD (d : PyData) (l g : Int) : Bool := match intD d with
  | some k => decide (l ≤ k) && decide (k ≤ g)
  | none => false
def rowsD (d : PyData) : Bool := match itemsD d with
  | some ds => ds.all lineD && decide (1 ≤ ds.length) && decide (ds.length ≤ 4)
  | none => false
def blkD : PyData → Bool
  | .tuple [x, y] => rowsD x && numD y 1 (10 ^ 30)
  | _ => false
def namD : List String := ["NoneType", "bool", "int", "str", "list", "tuple", "dict"]
theorem tyD_in (d : PyData) : tyD d ∈ namD := by
  cases d <;> simp [tyD, namD]
theorem kn_str : ∀ n ∈ namD, kitB n "str" = some (n == "str") := by decide +kernel
theorem kn_int : ∀ n ∈ namD, kitB n "int" = some (n == "int" || n == "bool") := by decide +kernel
theorem kn_bool : ∀ n ∈ namD, kitB n "bool" = some (n == "bool") := by decide +kernel
theorem kn_tup : ∀ n ∈ namD, kitB n "tuple" = some (n == "tuple") := by decide +kernel
theorem kn_list : ∀ n ∈ namD, kitB n "list" = some (n == "list") := by decide +kernel
theorem kit_seq {K : PySem.W.Frag} (d : PyData) : PySem.W.kitAny K (.type (tyD d)) [.type "list", .type "tuple"] = some (itemsD d).isSome := by
  refine kitAny_cons (kit_ty (kn_list _ (tyD_in d))) (fun h => kitAny_cons (kit_ty (kn_tup _ (tyD_in d))) (fun h2 => ?_) fun h2 => ?_) fun h => ?_
  · rw [kitAny_nil]
    cases d <;> first | rfl | (simp [tyD] at h; done) | (simp [tyD] at h2; done)
  · cases d <;> first | rfl | (simp [tyD] at h2; done)
  · cases d <;> first | rfl | (simp [tyD] at h; done)
/-- a list or a tuple -/
theorem Dz.items {N : Addr → Prop} {H : Hp} {v : V} {d : PyData} {ds : List PyData} (h : Dz N H v d) (e : itemsD d = some ds) : ∃ a o xs, v = .ref a ∧ N a ∧ H a = some o ∧ (o = .lst xs ∨ o = .tup xs) ∧ xs.length ≤ 1000 ∧ DzAll N H xs ds := by
  cases h with
  | lst n h f r =>
    cases e
    exact ⟨_, _, _, rfl, n, h, .inl rfl, f, r⟩
  | tup n h f r =>
    cases e
    exact ⟨_, _, _, rfl, n, h, .inr rfl, f, r⟩
  | _ => cases e
theorem DzAll.strs {N : Addr → Prop} {H : Hp} : ∀ {xs : List V} {ds : List PyData}, DzAll N H xs ds → ds.all lineD = true → ∃ rs : List Str, xs = rs.map V.str ∧ ds = rs.map PyData.str ∧ ∀ z ∈ rs, lineB z = true ∧ z.length ≤ 30
  | _, _, .nil, _ => ⟨[], rfl, rfl, fun _ h => by cases h⟩
  | _, _, .cons (v := v) (d := d) a r, h => by
    rw [List.all_cons, Bool.and_eq_true] at h
    obtain ⟨rs, e1, e2, ok⟩ := DzAll.strs r h.2
    cases a with
    | str ok1 =>
      refine ⟨_ :: rs, by rw [e1]; rfl, by rw [e2]; rfl, fun z hz => ?_⟩
      rcases List.mem_cons.mp hz with e | e
      · rw [e]
        exact ⟨h.1, ok1.few⟩
      · exact ok z e
    | _ => cases h.1
/-- the law's block: a tuple of a list or a tuple, and a number -/
def BkE (N : Addr → Prop) (H : Hp) (b : Bk Str) (v : V) : Prop := ∃ t a o, v = .ref t ∧ N t ∧ N a ∧ H t = some (.tup [.ref a, .int (b.2 : Int)]) ∧ H a = some o ∧ (o = .lst (b.1.map V.str) ∨ o = .tup (b.1.map V.str))
theorem BkE.keep {N M : Addr → Prop} {H H' : Hp} (k : Keeps N H H') (im : ∀ a, N a → M a) {b : Bk Str} {v : V} (h : BkE N H b v) : BkE M H' b v := by
  obtain ⟨t, a, o, e, n1, n2, h1, h2, h3⟩ := h
  refine ⟨t, a, o, e, im _ n1, im _ n2, k _ _ n1 h1 (fun _ z => by cases z), k _ _ n2 h2 ?_, h3⟩
  rcases h3 with rfl | rfl <;> intro _ z <;> cases z
/-- how many of a block's times -/
theorem Dz.block {N : Addr → Prop} {H : Hp} {v : V} {d : PyData} (h : Dz N H v d) (e : blkD d = true) : ∃ b : Bk Str, Vb b ∧ b.1.length ≤ 4 ∧ BkE N H b v := by
  unfold blkD at e
  split at e
  · rename_i x y
    rw [Bool.and_eq_true] at e
    obtain ⟨e1, e2⟩ := e
    cases h with
    | tup n ht f r =>
      cases r with
      | cons hx r =>
        cases r with
        | cons hy r =>
          cases r
          unfold rowsD at e1
          cases ei : itemsD x with
          | none => rw [ei] at e1; cases e1
          | some ds =>
            rw [ei] at e1
            simp only [Bool.and_eq_true, decide_eq_true_eq] at e1
            obtain ⟨a, o, xs, rfl, na, ha, ho, _, rx⟩ := hx.items ei
            obtain ⟨rs, rfl, rfl, ok⟩ := rx.strs e1.1.1
            rw [List.length_map] at e1
            cases hy with
            | int k =>
              have e2 : (decide (1 ≤ k) && decide (k ≤ 10 ^ 30)) = true := e2
              simp only [Bool.and_eq_true, decide_eq_true_eq] at e2
              have ek : ((k.toNat : Nat) : Int) = k := Int.toNat_of_nonneg (by omega)
              refine ⟨(rs, k.toNat), ⟨e1.1.2, by show rs.length ≤ 100; omega, by show 1 ≤ k.toNat; omega, ?_, ok⟩, e1.2, _, a, o, rfl, n, na, ?_, ha, ho⟩
              · show k.toNat ≤ 10 ^ 30
                have z : ((k.toNat : Nat) : Int) ≤ ((10 ^ 30 : Nat) : Int) := by rw [ek]; exact e2.2
                exact Int.ofNat_le.mp z
              · show H _ = some (.tup [.ref a, .int ((k.toNat : Nat) : Int)])
                rw [ek]
                exact ht
            | _ => cases e2
  · cases e
end LA
end
section
set_option Elab.async false
set_option linter.all false
set_option maxRecDepth 100000
set_option maxHeartbeats 4100000
namespace LA
open PySem L2 XS XT LM XK LamX
abbrev sIsNum : Stmt := top 33
theorem sum_wr {α : Type} : ∀ bs : List (Bk α), (bs.map fun b => ((b.1.length * b.2 : Nat) : Int)).sum = ((wr bs).length : Int)
  | [] => rfl
  | b :: bs => by
    rw [List.map_cons, List.sum_cons, sum_wr bs, wr_cons, List.length_append, len_one]
    omega
section
variable {X : Cx} {tg : Expr}
/-- a list or a tuple is gone through -/
def iSq (K : PySem.W.Frag) (tl : TE) : TI := fun σ H R => tl σ H fun x H1 => ∃ (a : Addr) (o : HO) (xs : List V), x = .ref a ∧ H1 a = some o ∧ (o = .lst xs ∨ o = .tup xs) ∧ ∀ J, Walk J xs.length (fun Y => Y a = some o) (YAt xs) → R J H1
theorem pi_sq {l : Expr} {tl : TE} (hl : PE X l tl) : PI X tg l (iSq X.K tl) := by
  refine ⟨fun pins s σ H R I want => ?_⟩
  refine thn (hl.run pins s σ H _ I want) fun v s1 ⟨x, H1, I1, r1, a, o, xs, e, ha, ho, q⟩ => ?_
  subst e
  cases r1
  have fpz : ∀ b ∈ [s1.heap.objs.size], FpOk X pins H1 b ∧ s1.heap.objs.size ≤ b := fun b hb => by
    have e : b = s1.heap.objs.size := by
      simpa using hb
    subst e
    exact ⟨(I1.fpOk (Nat.le_refl _) (I1.hok.fresh (Nat.le_refl _))), Nat.le_refl _⟩
  rcases ho with rfl | rfl
  · obtain ⟨its, rv, p, hz⟩ := I1.list (SqL.of ha)
    refine wpAny_pyIter_list p.isList ⟨s1.heap.objs.size, [s1.heap.objs.size], _, _, H1, rfl, I1.kept (t' := s1.toks) fun b o z => Heap.get?_push_of_some _ z, turn_list a _, ⟨_, Heap.get?_push_size _ rfl, rfl, rfl⟩, fun b hb => ?_, q _ (walk_list.mono (fun Y hY => SqL.of hY) fun i Y x Y' _ _ y => y)⟩
    exact (fpz b hb).1
  · obtain ⟨its, rv, p, hz⟩ := I1.tuple (SqT.of ha)
    refine wpAny_pyIter_tuple (show s1.heap.IsTuple a its.toArray from p) ⟨s1.heap.objs.size, [s1.heap.objs.size], _, _, H1, rfl, I1.kept (t' := s1.toks) fun b o z => Heap.get?_push_of_some _ z, turn_tuple a _, ⟨_, Heap.get?_push_size _ rfl, rfl, rfl⟩, fun b hb => ?_, q _ (walk_tup.mono (fun Y hY => SqT.of hY) fun i Y x Y' _ _ y => y)⟩
    exact (fpz b hb).1
end
section
variable {P : Program} {w : World} {K : PySem.W.Frag} {mg : Str → Option Value} {base : Heap} {t1 t2 t3 : Tok}
abbrev rLen (K : PySem.W.Frag) : List V → Hp → VK → Prop := fun xs H Q => ∃ p ys, xs = [.ref p] ∧ (SqL K H p ys ∨ SqT K H p ys) ∧ Q (.int ys.length) H
/-- a question on any value -/
def spQ (f : PyData → Bool) : Sp := fun vs H Q _ => ∃ (N : Addr → Prop) (v : V) (d : PyData), vs = [v] ∧ Dz N H v d ∧ ∀ H', Same H H' → Q (.bl (f d)) H'
theorem ask_line {K : PySem.W.Frag} {N : Addr → Prop} {H : Hp} {v : V} {d : PyData} {Q : VK} {E : XK} (h : Dz N H v d) (q : ∀ H', Same H H' → Q (.bl (lineD d)) H') : spLine K [v] H Q E := by
  refine ⟨v, rfl, ?_⟩
  by_cases e : tyD d = "str"
  · cases h with
    | str ok => exact .inl ⟨_, rfl, Nat.lt_of_le_of_lt ok.few (by decide), q⟩
    | _ => simp [tyD] at e
  · have l0 : lineD d = false := by
      cases d <;> first | rfl | exact absurd rfl e
    refine .inr ⟨fun z hz => ?_, ⟨_, h.ty, kit_ty (by rw [kn_str _ (tyD_in d)]; exact congrArg some (beq_eq_false_iff_ne.mpr e))⟩, ?_⟩
    · subst hz
      cases h with
      | str ok => exact e rfl
    · have z := q H (fun _ _ z => z)
      rw [l0] at z
      exact z
theorem all_map {f : PyData → Bool} : ∀ ds : List PyData, (ds.map f).all id = ds.all f
  | [] => rfl
  | d :: ds => by rw [List.map_cons, List.all_cons, List.all_cons, all_map ds]; rfl
theorem scTx : FnScope ["value", "line"] ["value"] (defScope sIsText) := ⟨rfl, rfl, rfl, by decide +kernel, rfl, by decide +kernel, by decide +kernel⟩
theorem ok_isText {f f1 : Addr} {fd fd1 : FuncData} (F : Fun K "is_text" "is_text" sIsText f fd) (T : PkT mg t1 t2 t3) (mL : mg "list" = none) (mT : mg "tuple" = none) (M : CallOf P w K mg base 2 "is_line" ["value"] (spLine K) f1 fd1) : FnOk P w K mg base CX0 3 f fd ["value"] (spQ txtD) := by
  refine F.ok scTx (fun vs H Q E h => ?_) (fun cdv A outer s H vs Q E hr h => ?_)
  · obtain ⟨N, v, d, rfl, _⟩ := h
    rfl
  · obtain ⟨N, v, d, rfl, hv, q⟩ := h
    refine ⟨_, pss_one (by exact (ps_ret (pe_and (pe_callB call_isiT (by rfl) T.isM (by decide +kernel) (pa_cons (pv 0) (pa_cons (pe_tup (pa_cons (pe_bltn (v := .ty "list") (by rfl) mL (by decide +kernel) rfl) (pa_cons (pe_bltn (v := .ty "tuple") (by rfl) mT (by decide +kernel) rfl) pa_nil))) pa_nil)))
      (pe_one (pe_callB (cr_all rfl) (by rfl) T.all (by decide +kernel) (pa_cons (pe_lc (own := [("line", 1)]) (g := gName 1) (tt := tYes) (te := tCall (spLine K) [] (fun _ _ _ => False) (tCons (tVar 1) tNil)) rfl scTx.nd (pi_sq (pv 0))
        (blkOk_by (N := ["value", "line"]) (sc := defScope sIsText) (by decide +kernel))
        (fun _ _ _ _ _ => by exact (pg_name (i := 1) scTx.nd rfl (Or.inl rfl)))
        (fun _ _ _ _ _ => by exact pts_nil)
        (fun _ _ _ _ _ => by exact (pe_call M.ok hr rfl M.m M.k M.b .nil pass0 (pa_cons (pv 1) pa_nil)))) pa_nil)))))), ?_⟩
    refine ⟨_, rfl, (by show 2 ≤ sizeLine; decide), fun TT nT => ?_⟩
    have sT := same_upd (o := .tup [.ty "list", .ty "tuple"]) nT
    have hv' := hv.same sT
    refine ⟨_, TT, _, _, _, _, rfl, upd_same, .cons (.ty _) (.cons (.ty _) .nil), hv'.ty, kit_seq d, _, rfl, ?_⟩
    cases ei : itemsD d with
    | none =>
      have e : txtD d = false := by
        unfold txtD
        rw [ei]
      refine iteF ?_
      rw [e] at q
      exact q _ sT
    | some ds =>
      obtain ⟨a, o, xs, rfl, _, ha, ho, few, rx⟩ := hv'.items ei
      have e : txtD d = ds.all lineD := by
        unfold txtD
        rw [ei]
      refine iteT ?_
      refine ⟨_, rfl, a, o, xs, rfl, ha, ho, fun J wk DD nD => ?_⟩
      refine lc_it wk (fun i Y => Y DD = some (.lst ((ds.take i).map fun d => V.bl (lineD d))) ∧ Same (upd H TT (.tup [.ty "list", .ty "tuple"])) Y) ⟨upd_same, same_upd nD⟩ (fun i Y _ p => p.2 _ _ ha) (fun i x Y Y' hi p yl => ?_) (fun Y p => ?_)
      · obtain ⟨pD, pS⟩ := p
        obtain ⟨rfl, hx⟩ := yl
        obtain ⟨dx, hd, hz⟩ := rx.at_ hx
        refine ⟨rfl, ?_⟩
        dsimp only [tYes]
        rw [if_pos rfl]
        refine ⟨_, rfl, ?_⟩
        dsimp only [tNil, tCons, List.cons_append, List.nil_append]
        refine ask_line (hz.same pS) fun Z sZ => ?_
        refine ⟨_, sZ _ _ pD, ?_, ?_, ?_⟩
        · rw [List.length_map, List.length_take]
          exact Nat.lt_of_le_of_lt (Nat.min_le_left _ _) (Nat.lt_of_lt_of_le hi (Nat.le_trans few (by decide)))
        · rw [upd_same, List.take_succ, hd, List.map_append]
          rfl
        · intro b o e
          have ne : b ≠ DD := ne_of_none e nD
          rw [upd_ne ne]
          exact sZ _ _ (pS b o e)
      · obtain ⟨pD, pS⟩ := p
        rw [rx.len, List.take_length] at pD
        refine ⟨DD, ds.map lineD, rfl, ?_, ?_⟩
        · rw [List.map_map]
          exact SqL.of pD
        · rw [all_map, ← e]
          exact q Y (sT.trans pS)
theorem scII : FnScope ["value"] ["value"] (defScope sIsInt) := ⟨rfl, rfl, rfl, by decide +kernel, rfl, by decide +kernel, by decide +kernel⟩
def isI (d : PyData) : Bool := (intD d).isSome
theorem isI_ty (d : PyData) : isI d = ((tyD d == "int" || tyD d == "bool") && !(tyD d == "bool")) := by
  cases d <;> simp [isI, intD, tyD]
theorem ok_isInt {f : Addr} {fd : FuncData} (F : Fun K "is_integer" "is_integer" sIsInt f fd) (isM : mg "isinstance" = none) (mI : mg "int" = none) (mB : mg "bool" = none) : FnOk P w K mg base CX0 1 f fd ["value"] (spQ isI) := by
  refine F.ok scII (fun vs H Q E h => ?_) (fun cdv A outer s H vs Q E hr h => ?_)
  · obtain ⟨N, v, d, rfl, _⟩ := h
    rfl
  · obtain ⟨N, v, d, rfl, hv, q⟩ := h
    have q0 := q H (fun _ _ z => z)
    rw [isI_ty] at q0
    refine ⟨_, pss_one (by exact (ps_ret (pe_and (pe_callB call_isi (by rfl) isM (by decide +kernel) (pa_cons (pv 0) (pa_cons (pe_bltn (v := .ty "int") (by rfl) mI (by decide +kernel) rfl) pa_nil))) (pe_one (pe_not (pe_callB call_isi (by rfl) isM (by decide +kernel) (pa_cons (pv 0) (pa_cons (pe_bltn (v := .ty "bool") (by rfl) mB (by decide +kernel) rfl) pa_nil)))))))), ?_⟩
    refine ⟨_, rfl, _, _, _, _, _, rfl, .ty _, hv.ty, kit_ty (kn_int _ (tyD_in d)), _, rfl, ?_⟩
    cases e : (tyD d == "int" || tyD d == "bool") with
    | false =>
      rw [e] at q0
      exact iteF q0
    | true =>
      rw [e] at q0
      exact iteT ⟨_, rfl, _, _, _, _, _, rfl, .ty _, hv.ty, kit_ty (kn_bool _ (tyD_in d)), _, rfl, q0⟩
def cntD (d : PyData) : Bool := match intD d with
  | some k => decide (1 ≤ k)
  | none => false
theorem Dz.int_ {N : Addr → Prop} {H : Hp} {v : V} {d : PyData} {k : Int} (h : Dz N H v d) (e : intD d = some k) : v = .int k := by
  cases h <;> cases e
  rfl
theorem scCn : FnScope ["value"] ["value"] (defScope sCounting) := ⟨rfl, rfl, rfl, by decide +kernel, rfl, by decide +kernel, by decide +kernel⟩
theorem ok_counting {f f1 : Addr} {fd fd1 : FuncData} (F : Fun K "is_counting" "is_counting" sCounting f fd) (M : CallOf P w K mg base 1 "is_integer" ["value"] (spQ isI) f1 fd1) : FnOk P w K mg base CX0 2 f fd ["value"] (spQ cntD) := by
  refine F.ok scCn (fun vs H Q E h => ?_) (fun cdv A outer s H vs Q E hr h => ?_)
  · obtain ⟨N, v, d, rfl, _⟩ := h
    rfl
  · obtain ⟨N, v, d, rfl, hv, q⟩ := h
    refine ⟨_, pss_one (by exact (ps_ret (pe_and (pe_call M.ok hr rfl M.m M.k M.b .nil pass0 (pa_cons (pv 0) pa_nil)) (pe_one (pe_cmpR op_ge (pv 0) pe_int (nomark _)))))), ?_⟩
    refine ⟨_, rfl, N, v, d, rfl, hv, fun H' s => ⟨_, rfl, ?_⟩⟩
    have q0 := q H' s
    unfold cntD at q0
    cases e : intD d with
    | none =>
      rw [e] at q0
      have i0 : isI d = false := by
        unfold isI
        rw [e]
        rfl
      rw [i0]
      exact iteF q0
    | some k =>
      rw [e] at q0
      have i0 : isI d = true := by
        unfold isI
        rw [e]
        rfl
      rw [i0]
      obtain rfl := hv.int_ e
      exact iteT ⟨_, rfl, _, _, rfl, rfl, q0⟩
/-- is_number of the program, _law_is_number of the law -/
def spNum : Sp := fun vs H Q _ => ∃ (N : Addr → Prop) (v : V) (d : PyData) (l g : Int), vs = [v, .int l, .int g] ∧ Dz N H v d ∧ ∀ H', Same H H' → Q (.bl (numD d l g)) H'
theorem scNu : FnScope ["value", "least", "greatest"] ["value", "least", "greatest"] (defScope sIsNum) := ⟨rfl, rfl, rfl, by decide +kernel, rfl, by decide +kernel, by decide +kernel⟩
theorem ok_isNum {f f1 : Addr} {fd fd1 : FuncData} (F : Fun K "is_number" "is_number" sIsNum f fd) (M : CallOf P w K mg base 1 "is_integer" ["value"] (spQ isI) f1 fd1) : FnOk P w K mg base CX0 2 f fd ["value", "least", "greatest"] spNum := by
  refine F.ok scNu (fun vs H Q E h => ?_) (fun cdv A outer s H vs Q E hr h => ?_)
  · obtain ⟨N, v, d, l, g, rfl, _⟩ := h
    rfl
  · obtain ⟨N, v, d, l, g, rfl, hv, q⟩ := h
    refine ⟨_, pss_one (by exact (ps_ret (pe_and (pe_call M.ok hr rfl M.m M.k M.b .nil pass0 (pa_cons (pv 0) pa_nil)) (pe_one (pe_chain op_le op_le (pv 1) (pv 0) (pv 2)))))), ?_⟩
    refine ⟨_, rfl, N, v, d, rfl, hv, fun H' s => ⟨_, rfl, ?_⟩⟩
    have q0 := q H' s
    unfold numD at q0
    cases e : intD d with
    | none =>
      rw [e] at q0
      have i0 : isI d = false := by
        unfold isI
        rw [e]
        rfl
      rw [i0]
      exact iteF q0
    | some k =>
      rw [e] at q0
      have i0 : isI d = true := by
        unfold isI
        rw [e]
        rfl
      rw [i0]
      obtain rfl := hv.int_ e
      have q0 : Q (.bl (decide (l ≤ k) && decide (k ≤ g))) H' := q0
      refine iteT ⟨_, rfl, _, rfl, _, _, rfl, rfl, _, rfl, ?_⟩
      cases e2 : decide (l ≤ k) with
      | false =>
        rw [e2] at q0
        exact iteF q0
      | true =>
        rw [e2] at q0
        exact iteT ⟨_, rfl, _, _, rfl, rfl, q0⟩
/-- is_block -/
theorem scBl : FnScope ["value", "lines", "times"] ["value"] (defScope sIsBlock) := ⟨rfl, rfl, rfl, by decide +kernel, rfl, by decide +kernel, by decide +kernel⟩
theorem Dz.tuple_ {N : Addr → Prop} {H : Hp} {v : V} {d : PyData} (h : Dz N H v d) (e : (tyD d == "tuple") = true) : ∃ a xs ds, v = .ref a ∧ d = .tuple ds ∧ H a = some (.tup xs) ∧ xs.length ≤ 1000 ∧ DzAll N H xs ds := by
  cases h <;> first | (simp [tyD] at e; done) | skip
  rename_i n h f r
  exact ⟨_, _, _, rfl, rfl, h, f, r⟩
theorem blkD_no {d : PyData} (h : (tyD d == "tuple") = false) : blkD d = false := by
  cases d <;> first | rfl | (simp [tyD] at h; done)
theorem blkD_len {ds : List PyData} (h : ds.length ≠ 2) : blkD (.tuple ds) = false := by
  match ds, h with
  | [], _ => rfl
  | [_], _ => rfl
  | [_, _], h => exact absurd rfl h
  | _ :: _ :: _ :: _, _ => rfl
theorem dz_two {N : Addr → Prop} {H : Hp} {xs : List V} {ds : List PyData} (h : DzAll N H xs ds) (l : ds.length = 2) : ∃ x y dx dy, xs = [x, y] ∧ ds = [dx, dy] ∧ Dz N H x dx ∧ Dz N H y dy := by
  cases h with
  | nil => cases l
  | cons a r =>
    cases r with
    | nil => cases l
    | cons b r =>
      cases r with
      | nil => exact ⟨_, _, _, _, rfl, rfl, a, b⟩
      | cons c r => simp at l
theorem ok_isBlk {f f1 f2 : Addr} {fd fd1 fd2 : FuncData} {tk1 tk2 : Tok} (F : Fun K "is_block" "is_block" sIsBlock f fd) (T : PkT mg t1 t2 t3) (mT : mg "tuple" = none) (m4 : mg "MAX_LINES" = some (.int 4 tk1)) (m30 : mg "MAX_TIMES" = some (.int (10 ^ 30) tk2)) (M : CallOf P w K mg base 3 "is_text" ["value"] (spQ txtD) f1 fd1) (N : CallOf P w K mg base 2 "is_counting" ["value"] (spQ cntD) f2 fd2) :
    FnOk P w K mg base CX0 4 f fd ["value"] (spQ blkD) := by
  refine F.ok scBl (fun vs H Q E h => ?_) (fun cdv A outer s H vs Q E hr h => ?_)
  · obtain ⟨N, v, d, rfl, _⟩ := h
    rfl
  · obtain ⟨N0, v, d, rfl, hv, q⟩ := h
    have hr2 : Room 2 _ := hr.mono (by decide)
    refine ⟨_, pss_cons (by exact (ps_if (PW.pt (pw_or (pt_not (pt_val (pe_callB call_isi (by rfl) T.isM (by decide +kernel) (pa_cons (pv 0) (pa_cons (pe_bltn (v := .ty "tuple") (by rfl) mT (by decide +kernel) rfl) pa_nil))))) (pw_or1 (pt_cmpR op_ne (pe_callB call_len_seq (by rfl) T.len PySem.boot_len (pa_cons (pv 0) pa_nil)) pe_int (nomark _))))) (pss_one (by exact (ps_ret pe_bl))) pss_nil)) (
      pss_cons (by exact (ps_asg (pv 0) (pg_tup (by rfl) (pgs_cons (pg_name (i := 1) scBl.nd rfl (Or.inl rfl)) (pgs_cons (pg_name (i := 2) scBl.nd rfl (Or.inl rfl)) pgs_nil))))) (
      pss_one (by exact (ps_ret (pe_and (pe_call M.ok hr rfl M.m M.k M.b .nil pass0 (pa_cons (pv 1) pa_nil)) (pe_and (pe_chain op_le op_le pe_int (pe_callB call_len_seq (by rfl) T.len PySem.boot_len (pa_cons (pv 1) pa_nil)) (pe_glob (v := .int 4) rfl m4 ⟨_, rfl⟩)) (pe_and (pe_call N.ok hr2 rfl N.m N.k N.b .nil pass0 (pa_cons (pv 2) pa_nil)) (pe_one (pe_cmpR op_le (pv 2) (pe_glob (v := .int (10 ^ 30)) rfl m30 ⟨_, rfl⟩) (nomark _)))))))))), ?_⟩
    refine ⟨_, rfl, _, _, _, _, _, rfl, .ty _, hv.ty, kit_ty (kn_tup _ (tyD_in d)), _, rfl, ?_⟩
    cases et : (tyD d == "tuple") with
    | false =>
      have z := q H (fun _ _ z => z)
      rw [blkD_no et] at z
      exact iteT z
    | true =>
      obtain ⟨t, xs, ds, rfl, rfl, ht, few, r⟩ := hv.tuple_ et
      refine iteF ⟨_, rfl, t, _, rfl, .inr (SqT.of ht), rfl, _, rfl, ?_⟩
      rw [r.len]
      by_cases l2 : ds.length = 2
      · rw [decide_eq_true (show V.int (ds.length : Int) = V.int 2 by rw [l2]; rfl)]
        obtain ⟨x, y, dx, dy, rfl, rfl, hx, hy⟩ := dz_two r l2
        refine iteF ⟨_, rfl, t, _, rfl, SqT.of ht, rfl, _, _, rfl, _, _, rfl, rfl, ?_⟩
        have eb : blkD (.tuple [dx, dy]) = (rowsD dx && numD dy 1 (10 ^ 30)) := rfl
        rw [eb] at q
        refine ⟨_, rfl, N0, x, dx, rfl, hx, fun H1 s1 => ⟨_, rfl, ?_⟩⟩
        cases ei : itemsD dx with
        | none =>
          have e1 : txtD dx = false := by
            unfold txtD
            rw [ei]
          have e2 : rowsD dx = false := by
            unfold rowsD
            rw [ei]
          rw [e1]
          have z := q H1 s1
          rw [e2] at z
          exact iteF z
        | some es =>
          have e1 : txtD dx = es.all lineD := by
            unfold txtD
            rw [ei]
          have e2 : rowsD dx = (es.all lineD && decide (1 ≤ es.length) && decide (es.length ≤ 4)) := by
            unfold rowsD
            rw [ei]
          rw [e1]
          rw [e2] at q
          cases ea : es.all lineD with
          | false =>
            rw [ea] at q
            exact iteF (q H1 s1)
          | true =>
            rw [ea] at q
            obtain ⟨a, o, ys, rfl, _, ha, ho, _, ry⟩ := (hx.same s1).items ei
            refine iteT ⟨_, rfl, a, ys, rfl, (by rcases ho with rfl | rfl; exact .inl (SqL.of ha); exact .inr (SqT.of ha)), _, _, rfl, rfl, _, rfl, ?_⟩
            rw [ry.len]
            have c1 : decide ((1 : Int) ≤ (es.length : Int)) = decide (1 ≤ es.length) := decide_eq_decide.mpr (by omega)
            rw [c1]
            cases e3 : decide (1 ≤ es.length) with
            | false =>
              rw [e3] at q
              exact iteF ⟨_, rfl, iteF (q H1 s1)⟩
            | true =>
              rw [e3] at q
              refine iteT ⟨_, _, rfl, rfl, _, rfl, ?_⟩
              have c2 : decide ((es.length : Int) ≤ 4) = decide (es.length ≤ 4) := decide_eq_decide.mpr (by omega)
              rw [c2]
              cases e4 : decide (es.length ≤ 4) with
              | false =>
                rw [e4] at q
                exact iteF (q H1 s1)
              | true =>
                rw [e4] at q
                refine iteT ⟨_, rfl, N0, y, dy, rfl, hy.same s1, fun H2 s2 => ⟨_, rfl, ?_⟩⟩
                have z := q H2 (s1.trans s2)
                cases en : intD dy with
                | none =>
                  have ec : cntD dy = false := by
                    unfold cntD
                    rw [en]
                  have ez : numD dy 1 (10 ^ 30) = false := by
                    unfold numD
                    rw [en]
                  rw [ez] at z
                  rw [ec]
                  exact iteF z
                | some k =>
                  have ec : cntD dy = decide (1 ≤ k) := by
                    unfold cntD
                    rw [en]
                  have ez : numD dy 1 (10 ^ 30) = (decide (1 ≤ k) && decide (k ≤ 10 ^ 30)) := by
                    unfold numD
                    rw [en]
                  rw [ez] at z
                  rw [ec]
                  obtain rfl := hy.int_ en
                  cases e5 : decide (1 ≤ k) with
                  | false =>
                    rw [e5] at z
                    exact iteF z
                  | true =>
                    rw [e5] at z
                    exact iteT ⟨_, rfl, _, _, rfl, rfl, z⟩
      · rw [decide_eq_false (show ¬ V.int (ds.length : Int) = V.int 2 from fun z => l2 (by injection z with z; omega))]
        have z := q H (fun _ _ z => z)
        rw [blkD_len l2] at z
        exact iteT z
/-- how many lines the program's blocks write -/
def spLenOf : Sp := fun vs H Q _ => ∃ (t : Addr) (us : List V) (bs : List (Bk Str)), vs = [.ref t] ∧ H t = some (.tup us) ∧ Paired (fun b v => BkT H b v) bs us ∧ (∀ b ∈ bs, Vb b) ∧ bs.length ≤ 1000 ∧ ∀ H', Same H H' → Q (.int ((wr bs).length : Int)) H'
theorem scLo : FnScope ["blocks", "lines", "times"] ["blocks"] (defScope sLenOf) := ⟨rfl, rfl, rfl, by decide +kernel, rfl, by decide +kernel, by decide +kernel⟩
theorem ok_lenOf {f : Addr} {fd : FuncData} (F : Fun K "length_of" "length_of" sLenOf f fd) (mL : mg "len" = none) (mS : mg "sum" = none) : FnOk P w K mg base CX0 1 f fd ["blocks"] spLenOf := by
  refine F.ok scLo (fun vs H Q E h => ?_) (fun cdv A outer s H vs Q E hr h => ?_)
  · obtain ⟨t, us, bs, rfl, _⟩ := h
    rfl
  · obtain ⟨t, us, bs, rfl, ht, pr, vb, lb, q⟩ := h
    refine ⟨_, pss_one (by exact (ps_ret (pe_callB (cr_sum rfl) (by rfl) mS (by decide +kernel) (pa_cons (pe_lc (own := [("lines", 1), ("times", 2)]) (g := gTup K 2 (gCons (gName 1) (gCons (gName 2) gNil))) (tt := tYes) (te := tOp (rI CMulW fun i j => .int (i * j)) (tCB (rLen K) (tCons (tVar 1) tNil)) (tVar 2)) rfl scLo.nd (pi_tup (pv 0))
        (blkOk_by (N := ["blocks", "lines", "times"]) (sc := defScope sLenOf) (by decide +kernel))
        (fun _ _ _ _ _ => by exact (pg_tup rfl (pgs_cons (by exact (pg_name (i := 1) scLo.nd rfl (Or.inl rfl))) (pgs_cons (by exact (pg_name (i := 2) scLo.nd rfl (Or.inl rfl))) pgs_nil))))
        (fun _ _ _ _ _ => by exact pts_nil)
        (fun _ _ _ _ _ => by exact (pe_op op_mulW (pe_callB call_len_seq (by rfl) mL PySem.boot_len (pa_cons (pv 1) pa_nil)) (pv 2)))) pa_nil)))), ?_⟩
    refine ⟨_, rfl, t, rfl, ⟨_, SqT.of ht⟩, fun DD nD => ?_⟩
    refine lc_it (walk_tup (K := K) (a := t) (xs := us)) (fun i Y => Y DD = some (.lst ((bs.take i).map fun b => V.int ((b.1.length * b.2 : Nat) : Int))) ∧ Same H Y) ⟨upd_same, same_upd nD⟩ (fun i Y _ p => SqT.of (p.2 _ _ ht)) (fun i x Y Y' hi p yl => ?_) (fun Y p => ?_)
    · obtain ⟨pD, pS⟩ := p
      obtain ⟨rfl, hx⟩ := yl
      obtain ⟨b, hb, tb, ab, rfl, h1, h2⟩ := pair_at pr hx
      have v := vb b (List.mem_of_getElem? hb)
      refine ⟨tb, _, rfl, SqT.of (pS _ _ h1), rfl, _, _, rfl, _, _, rfl, rfl, rfl, ?_⟩
      dsimp only [tYes]
      rw [if_pos rfl]
      refine ⟨_, rfl, ab, _, rfl, .inr (SqT.of (pS _ _ h2)), _, rfl, _, _, rfl, rfl, ?_⟩
      have e1 : ((b.1.map V.str).length : Int) = (b.1.length : Int) := by rw [List.length_map]
      rw [e1]
      refine ⟨wide_mul (rows_small v.l4) (times_small v.t30) (by decide) (by decide) (by decide), _, pD, ?_, ?_, ?_⟩
      · rw [List.length_map, List.length_take]
        exact Nat.lt_of_le_of_lt (Nat.min_le_right _ _) (Nat.lt_of_le_of_lt lb (by decide))
      · rw [List.take_succ, hb, List.map_append]
        exact upd_same
      · intro c o e
        rw [upd_ne (ne_of_none e nD)]
        exact pS c o e
    · obtain ⟨pD, pS⟩ := p
      rw [← pair_len pr, List.take_length] at pD
      refine ⟨DD, (bs.map fun b => ((b.1.length * b.2 : Nat) : Int)), rfl, ?_, ?_⟩
      · rw [List.map_map]
        exact SqL.of pD
      · rw [sum_wr]
        exact q Y pS
end
end LA
end
section
set_option Elab.async false
set_option linter.all false
set_option maxRecDepth 100000
set_option maxHeartbeats 4100000
namespace LM
/-! ### what piece and cut tell: the mathematics -/
section
variable {α : Type}
theorem drop_one (r : List α) (a c : Nat) : (one (r, a + c)).drop (r.length * a) = one (r, c) := by
  rw [← one_add]
  have l : (one (r, a)).length = r.length * a := len_one _
  rw [← l, List.drop_left]
theorem take_one (r : List α) (a c y : Nat) : (one (r, a + c)).take (r.length * a + y) = one (r, a) ++ (one (r, c)).take y := by
  rw [← one_add]
  have l : (one (r, a)).length = r.length * a := len_one _
  rw [← l, List.take_append, Nat.add_sub_cancel_left, List.take_of_length_le (Nat.le_add_right _ _)]
theorem take_row (r : List α) (c y : Nat) (h : y ≤ r.length) (hc : 0 < c ∨ y = 0) : (one (r, c)).take y = r.take y := by
  rcases hc with hc | rfl
  · obtain ⟨d, rfl⟩ : ∃ d, c = d + 1 := ⟨c - 1, by omega⟩
    rw [one_succ, List.take_append, Nat.sub_eq_zero_of_le h, List.take_zero, List.append_nil]
  · simp
/-- the blocks of a piece, empty ones among them -/
def pieces (r : List α) (low high : Nat) : List (Bk α) :=
  if high / r.length < (low + r.length - 1) / r.length then [((r.take (high % r.length)).drop (low % r.length), 1)]
  else [(if low % r.length = 0 then [] else r.drop (low % r.length), 1), (r, high / r.length - (low + r.length - 1) / r.length), (r.take (high % r.length), 1)]
/-- what stands there at all -/
def keepB (b : Bk α) : Bool := !b.1.isEmpty && decide (b.2 ≠ 0)
theorem one_none (b : Bk α) (h : keepB b = false) : one b = [] := by
  obtain ⟨r, k⟩ := b
  unfold keepB at h
  rw [Bool.and_eq_false_iff] at h
  rcases h with h | h
  · have e : r = [] := by
      cases r with
      | nil => rfl
      | cons x y => cases h
    rw [e]
    unfold one
    simp
  · have e : k = 0 := by simpa using h
    rw [e]
    rfl
theorem wr_keep : ∀ bs : List (Bk α), wr (bs.filter keepB) = wr bs
  | [] => rfl
  | b :: bs => by
    rw [List.filter_cons, wr_cons]
    cases e : keepB b with
    | true => rw [if_pos rfl, wr_cons, wr_keep bs]
    | false => rw [if_neg (by decide), one_none b e, List.nil_append, wr_keep bs]
theorem ceil_div {n a x : Nat} (hn : 0 < n) (hx : x < n) : (n * a + x + n - 1) / n = if x = 0 then a else a + 1 := by
  split
  · rename_i e
    subst e
    rw [show n * a + 0 + n - 1 = n - 1 + n * a by omega, Nat.add_mul_div_left _ _ hn, Nat.div_eq_of_lt (by omega), Nat.zero_add]
  · rw [show n * a + x + n - 1 = x - 1 + n * (a + 1) by rw [Nat.mul_succ]; omega, Nat.add_mul_div_left _ _ hn, Nat.div_eq_of_lt (by omega), Nat.zero_add]
theorem wr_pieces (r : List α) (k low high : Nat) (h0 : 0 < r.length) (h1 : low ≤ high) (h2 : high ≤ r.length * k) : wr (pieces r low high) = ((one (r, k)).take high).drop low := by
  obtain ⟨x, hx, ax⟩ : ∃ x, low % r.length = x ∧ x < r.length := ⟨_, rfl, Nat.mod_lt _ h0⟩
  obtain ⟨y, hy, ay⟩ : ∃ y, high % r.length = y ∧ y < r.length := ⟨_, rfl, Nat.mod_lt _ h0⟩
  obtain ⟨a, ea⟩ : ∃ a, low / r.length = a := ⟨_, rfl⟩
  obtain ⟨b, eb⟩ : ∃ b, high / r.length = b := ⟨_, rfl⟩
  have el : low = r.length * a + x := by rw [← ea, ← hx]; exact (Nat.div_add_mod _ _).symm
  have eh : high = r.length * b + y := by rw [← eb, ← hy]; exact (Nat.div_add_mod _ _).symm
  have ab : a ≤ b := by rw [← ea, ← eb]; exact Nat.div_le_div_right h1
  have bk : b ≤ k := by
    rw [← eb]
    exact Nat.div_le_of_le_mul h2
  have yk : 0 < k - b ∨ y = 0 := by
    by_cases z : b = k
    · right
      rw [eh, z] at h2
      omega
    · left
      omega
  have ec := ceil_div (a := a) h0 ax
  rw [← el] at ec
  obtain ⟨c, rfl⟩ : ∃ c, k = b + c := ⟨k - b, by omega⟩
  rw [Nat.add_sub_cancel_left] at yk
  have top : (one (r, b + c)).take high = one (r, b) ++ r.take y := by rw [eh, take_one, take_row r c y (by omega) yk]
  rw [top]
  unfold pieces
  rw [ec, eb, hx, hy]
  obtain ⟨d, rfl⟩ : ∃ d, b = a + d := ⟨b - a, by omega⟩
  have dr : (one (r, a + d) ++ r.take y).drop low = (one (r, d) ++ r.take y).drop x := by
    rw [← one_add, List.append_assoc, el, ← List.drop_drop]
    have l : (one (r, a)).length = r.length * a := len_one _
    rw [← l, List.drop_left]
  rw [dr]
  by_cases x0 : x = 0
  · subst x0
    rw [if_pos rfl, if_neg (by omega), if_pos rfl, wr_cons, wr_cons, wr_cons, wr_nil, List.append_nil, List.drop_zero, one_one, one_one, List.nil_append, Nat.add_sub_cancel_left]
  · rw [if_neg x0]
    cases d with
    | zero =>
      rw [if_pos (by omega), wr_cons, wr_nil, List.append_nil, one_one]
      show _ = ([] ++ r.take y).drop x
      rw [List.nil_append]
    | succ d =>
      rw [if_neg (by omega), if_neg x0, wr_cons, wr_cons, wr_cons, wr_nil, List.append_nil, one_one, one_one, one_succ, List.append_assoc, List.drop_append, Nat.sub_eq_zero_of_le (show x ≤ r.length by omega), List.drop_zero, show a + (d + 1) - (a + 1) = d by omega]
/-- the next block's part of what is cut -/
theorem cut_next (L M : List α) (low high : Nat) : ((L ++ M).take high).drop low = (L.take high).drop low ++ (M.take (high - L.length)).drop (low - L.length) := by
  rw [List.take_append, List.drop_append]
  by_cases h : high ≤ L.length
  · rw [Nat.sub_eq_zero_of_le h, List.take_zero, List.drop_nil, List.drop_nil]
  · rw [List.take_of_length_le (by omega : L.length ≤ high)]
end
end LM
end
section
set_option Elab.async false
set_option linter.all false
set_option maxRecDepth 100000
set_option maxHeartbeats 4100000
namespace LA
open PySem L2 XS XT LM XK LamX
abbrev sPiece : Stmt := top 23
theorem bkT_same {H H' : Hp} (s : Same H H') {bs : List (Bk Str)} {us : List V} (p : Paired (fun b v => BkT H b v) bs us) : Paired (fun b v => BkT H' b v) bs us := pair_same (fun _ _ _ _ s h => h.same s) s p
theorem BkT.but {d : Addr} {H H' : Hp} (nd : ∀ xs, H d ≠ some (.tup xs)) (k : But d H H') {b : Bk Str} {v : V} (h : BkT H b v) : BkT H' b v := by
  obtain ⟨t, a, e, h1, h2⟩ := h
  exact ⟨t, a, e, k _ _ h1 (fun z => nd _ (z ▸ h1)), k _ _ h2 (fun z => nd _ (z ▸ h2))⟩
theorem But.same_put {a : Addr} {H H' : Hp} {o : HO} (s : Same H H') : But a H (upd H' a o) := fun b u e n => by
  rw [upd_ne n]
  exact s b u e
abbrev tTr (K : PySem.W.Frag) (i : Nat) : TT := fun σ H Q => tVar i σ H fun x H' => ∃ k, TruV K x H' k ∧ Q k H'
abbrev tPc (K : PySem.W.Frag) : TE := tLc (iList K (tVar 6)) (gTup K 2 (gCons (gName 7) (gCons (gName 8) gNil))) (tAnd (tTr K 7) (tTr K 8)) (tTup (tCons (tVar 7) (tCons (tVar 8) tNil))) [7, 8]
theorem pc_read {K : PySem.W.Frag} {x0 x1 x2 x3 x4 x5 : Option V} {FF : Addr} {X : Hp} {us : List V} {ps : List (Bk Str)} {Q : VK} (hF : X FF = some (.lst us)) (pr : Paired (fun b v => BkT X b v) ps us) (few : ps.length ≤ 3)
    (q : ∀ (p : Addr) (ws : List V) (X' : Hp), X' p = some (.lst ws) → Paired (fun b v => BkT X' b v) (ps.filter keepB) ws → Same X X' → Q (.ref p) X') :
    tPc K [x0, x1, x2, x3, x4, x5, some (.ref FF), none, none] X Q := by
  refine ⟨_, rfl, FF, rfl, ⟨_, SqL.of hF⟩, fun DD nD => ?_⟩
  refine lc_it (walk_list (K := K) (a := FF) (xs := us)) (fun i Y => (∃ ws, Y DD = some (.lst ws) ∧ Paired (fun b v => BkT Y b v) ((ps.take i).filter keepB) ws) ∧ Same X Y) ⟨⟨[], upd_same, .nil⟩, same_upd nD⟩ (fun i Y _ p => SqL.of (p.2 _ _ hF)) (fun i x Y Y' hi p yl => ?_) (fun Y p => ?_)
  · obtain ⟨⟨ws, pD, pp⟩, pS⟩ := p
    obtain ⟨rfl, hx⟩ := yl
    obtain ⟨b, hb, tb, ab, rfl, h1, h2⟩ := pair_at pr hx
    refine ⟨tb, _, rfl, SqT.of (pS _ _ h1), rfl, _, _, rfl, _, _, rfl, rfl, rfl, ?_⟩
    have nx : (ps.take (i + 1)).filter keepB = (ps.take i).filter keepB ++ (if keepB b = true then [b] else []) := by
      rw [List.take_succ, hb, List.filter_append]
      congr 1
      show List.filter _ [b] = _
      rw [List.filter_cons]
      split <;> rfl
    rw [nx]
    have ee : (b.1.map V.str).isEmpty = b.1.isEmpty := by
      cases b.1 <;> rfl
    refine ⟨_, rfl, _, .inr (.inl ⟨_, SqT.of (pS _ _ h2), rfl⟩), ?_⟩
    rw [ee]
    cases e1 : b.1.isEmpty with
    | true =>
      have kb : keepB b = false := by
        unfold keepB
        rw [e1]
        rfl
      rw [kb]
      show (if (!true) = true then _ else _)
      rw [if_neg (by decide)]
      show (if false = true then _ else _)
      rw [if_neg (by decide)]
      refine ⟨⟨ws, pD, ?_⟩, pS⟩
      rw [if_neg (by decide), List.append_nil]
      exact pp
    | false =>
      show (if (!false) = true then _ else _)
      rw [if_pos (by decide)]
      refine ⟨_, rfl, _, rfl, ?_⟩
      have kb : keepB b = ((b.2 : Int) != 0) := by
        unfold keepB
        rw [e1]
        by_cases z : b.2 = 0
        · rw [z]
          rfl
        · rw [decide_eq_true z]
          exact (bne_iff_ne.mpr (by omega)).symm
      rw [← kb]
      cases e2 : keepB b with
      | false =>
        show (if false = true then _ else _)
        rw [if_neg (by decide)]
        refine ⟨⟨ws, pD, ?_⟩, pS⟩
        rw [if_neg (by decide), List.append_nil]
        exact pp
      | true =>
        show (if true = true then _ else _)
        rw [if_pos rfl]
        refine ⟨_, rfl, _, rfl, (by show 2 ≤ sizeLine; decide), fun t nt => ?_⟩
        have sB := same_upd (o := .tup [.ref ab, .int (b.2 : Int)]) nt
        have nDt : t ≠ DD := (ne_of_none pD nt).symm
        refine ⟨ws, sB _ _ pD, ?_, ⟨ws ++ [.ref t], upd_same, ?_⟩, ?_⟩
        · have l0 : ws.length ≤ 3 := by
            rw [← pair_len pp]
            exact Nat.le_trans (List.length_filter_le _ _) (by rw [List.length_take]; omega)
          exact Nat.lt_of_le_of_lt l0 (by decide)
        · rw [if_pos rfl]
          have bt : But DD Y' (upd (upd Y' t (.tup [.ref ab, .int (b.2 : Int)])) DD (.lst (ws ++ [.ref t]))) := But.same_put sB
          refine pair_app (L2.Paired.mapP pp fun _ _ z => z.but (fun xs e => by rw [pD] at e; cases e) bt) (.cons ⟨t, ab, rfl, by rw [upd_ne nDt]; exact upd_same, ?_⟩ .nil)
          have hab := pS _ _ h2
          rw [upd_ne (fun z => by rw [z, pD] at hab; cases hab)]
          exact sB _ _ hab
        · intro c o e
          rw [upd_ne (ne_of_none e nD)]
          exact sB _ _ (pS _ _ e)
  · obtain ⟨⟨ws, pD, pp⟩, pS⟩ := p
    rw [← pair_len pr, List.take_length] at pp
    exact q DD ws Y pD pp pS
section
variable {P : Program} {w : World} {K : PySem.W.Frag} {mg : Str → Option Value} {base : Heap} {t1 t2 t3 : Tok}
/-- piece -/
def spPiece : Sp := fun vs H Q _ => ∃ (a : Addr) (b : Bk Str) (low high : Nat), vs = [.ref a, .int low, .int high] ∧ H a = some (.tup (b.1.map V.str)) ∧ Vb b ∧ low ≤ high ∧ high ≤ b.1.length * b.2 ∧
  ∀ (p : Addr) (us : List V) (cs : List (Bk Str)) (H' : Hp), H' p = some (.lst us) → Paired (fun b v => BkT H' b v) cs us → wr cs = ((one b).take high).drop low → (∀ c ∈ cs, Vb c) → cs.length ≤ 3 → Same H H' → Q (.ref p) H'
theorem vb_pieces {b : Bk Str} (vb : Vb b) {low high : Nat} (h2 : high ≤ b.1.length * b.2) : ∀ c ∈ (pieces b.1 low high).filter keepB, Vb c := by
  intro c hc
  obtain ⟨m, k⟩ := List.mem_filter.mp hc
  have l1 := vb.l1
  have l4 := vb.l4
  unfold keepB at k
  rw [Bool.and_eq_true] at k
  have c1 : 1 ≤ c.1.length := by
    cases e : c.1 with
    | nil =>
      rw [e] at k
      exact absurd k.1 (by decide)
    | cons x y => simp
  have c2 : 1 ≤ c.2 := by
    have := of_decide_eq_true k.2
    omega
  have hd : high / b.1.length ≤ b.2 := Nat.div_le_of_le_mul h2
  have t30 := vb.t30
  have one30 : 1 ≤ 10 ^ 30 := by decide
  unfold pieces at m
  split at m
  · have e : c = ((b.1.take (high % b.1.length)).drop (low % b.1.length), 1) := by simpa using m
    subst e
    refine ⟨c1, ?_, c2, one30, fun z hz => vb.ok z (List.mem_of_mem_take (List.mem_of_mem_drop hz))⟩
    show ((b.1.take (high % b.1.length)).drop (low % b.1.length)).length ≤ 100
    rw [List.length_drop, List.length_take]
    omega
  · simp only [List.mem_cons, List.not_mem_nil, or_false] at m
    rcases m with rfl | rfl | rfl
    · refine ⟨c1, ?_, c2, one30, fun z hz => ?_⟩
      · show (if low % b.1.length = 0 then [] else b.1.drop (low % b.1.length)).length ≤ 100
        split
        · simp
        · rw [List.length_drop]
          omega
      · have hz : z ∈ (if low % b.1.length = 0 then [] else b.1.drop (low % b.1.length)) := hz
        split at hz
        · cases hz
        · exact vb.ok z (List.mem_of_mem_drop hz)
    · exact ⟨c1, l4, c2, Nat.le_trans (Nat.sub_le _ _) (Nat.le_trans hd t30), vb.ok⟩
    · refine ⟨c1, ?_, c2, one30, fun z hz => vb.ok z (List.mem_of_mem_take hz)⟩
      show (b.1.take (high % b.1.length)).length ≤ 100
      rw [List.length_take]
      omega
theorem pieces_len (r : List Str) (low high : Nat) : (pieces r low high).length ≤ 3 := by
  unfold pieces
  split <;> simp
theorem cut_ab (r : List Str) (x y : Nat) (hy : y ≤ r.length) : cutV (r.map V.str) (some (x : Int)) (some (y : Int)) = ((r.take y).drop x).map V.str := by
  unfold cutV
  rw [HT.sIx_nat, HT.sIx_nat, List.length_map, Nat.min_eq_left hy, ← List.map_drop, ← List.map_take]
  congr 1
  by_cases h : x ≤ r.length
  · rw [Nat.min_eq_left h, List.drop_take]
  · rw [Nat.min_eq_right (by omega), List.drop_eq_nil_of_le (Nat.le_refl _), List.take_nil, List.drop_eq_nil_of_le (by rw [List.length_take]; omega)]
theorem cut_a (r : List Str) (x : Nat) (hx : x ≤ r.length) : cutV (r.map V.str) (some (x : Int)) none = (r.drop x).map V.str := by
  unfold cutV
  rw [HT.sIx_nat, HT.sIx_none, List.length_map, Nat.min_eq_left hx, ← List.map_drop, ← List.map_take, List.take_of_length_le (by rw [List.length_drop]; omega)]
theorem cut_b (r : List Str) (y : Nat) (hy : y ≤ r.length) : cutV (r.map V.str) none (some (y : Int)) = (r.take y).map V.str := by
  unfold cutV
  rw [HT.sIx_nat, HT.sIx_none, List.length_map, Nat.min_eq_left hy, List.drop_zero, Nat.sub_zero, ← List.map_take]
theorem scPc : FnScope ["lines", "low", "high", "many", "first", "last", "found", "some", "times"] ["lines", "low", "high"] (defScope sPiece) := ⟨rfl, rfl, rfl, by decide +kernel, rfl, by decide +kernel, by decide +kernel⟩
theorem ok_piece {f : Addr} {fd : FuncData} (F : Fun K "piece" "piece" sPiece f fd) (mL : mg "len" = none) : FnOk P w K mg base CX0 1 f fd ["lines", "low", "high"] spPiece := by
  refine F.ok scPc (fun vs H Q E h => ?_) (fun cdv A outer s H vs Q E hr h => ?_)
  · obtain ⟨a, b, low, high, rfl, _⟩ := h
    rfl
  · obtain ⟨a, b, low, high, rfl, ha, vb, h1, h2, q⟩ := h
    refine ⟨_, pss_cons (by exact (ps_set (i := 3) scPc.nd rfl (.inl rfl) (pe_callB call_len_seq (by rfl) mL PySem.boot_len (pa_cons (pv 0) pa_nil))))
      (pss_cons (by exact (ps_set (i := 4) scPc.nd rfl (.inl rfl) (pe_op op_fdivW (pe_op op_sub (pe_op op_add (pv 1) (pv 3)) pe_int) (pv 3))))
      (pss_cons (by exact (ps_set (i := 5) scPc.nd rfl (.inl rfl) (pe_op op_fdivW (pv 2) (pv 3))))
      (pss_cons (by exact (ps_if (pt_cmpR op_gt (pv 4) (pv 5) (nomark _)) (pss_one (by exact (ps_set (i := 6) scPc.nd rfl (.inl rfl) (pe_lst (pa_cons (pe_tup (pa_cons (pe_slice sl_tup (pv 0) (po_some (pe_op op_mod (pv 1) (pv 3))) (po_some (pe_op op_mod (pv 2) (pv 3)))) (pa_cons pe_int pa_nil))) pa_nil))))) (pss_one (by exact (ps_set (i := 6) scPc.nd rfl (.inl rfl) (pe_lst (pa_cons (pe_tup (pa_cons (pe_ifExp (pt_truth (pe_op op_mod (pv 1) (pv 3)) (fun _ => rfl)) (pe_slice sl_tup (pv 0) (po_some (pe_op op_mod (pv 1) (pv 3))) po_none) (pe_tup pa_nil)) (pa_cons pe_int pa_nil))) (pa_cons (pe_tup (pa_cons (pv 0) (pa_cons (pe_op op_sub (pv 5) (pv 4)) pa_nil))) (pa_cons (pe_tup (pa_cons (pe_slice sl_tup (pv 0) po_none (po_some (pe_op op_mod (pv 2) (pv 3)))) (pa_cons pe_int pa_nil))) pa_nil)))))))))
      (pss_one (by exact (ps_ret (pe_lc (own := [("some", 7), ("times", 8)]) (g := gTup K 2 (gCons (gName 7) (gCons (gName 8) gNil))) (tt := tAnd (tTr K 7) (tTr K 8)) (te := tTup (tCons (tVar 7) (tCons (tVar 8) tNil))) rfl scPc.nd (pi_list (pv 6))
        (blkOk_by (N := ["lines", "low", "high", "many", "first", "last", "found", "some", "times"]) (sc := defScope sPiece) (by decide +kernel))
        (fun _ _ _ _ _ => by exact (pg_tup rfl (pgs_cons (by exact (pg_name (i := 7) scPc.nd rfl (Or.inl rfl))) (pgs_cons (by exact (pg_name (i := 8) scPc.nd rfl (Or.inl rfl))) pgs_nil))))
        (fun _ _ _ _ _ => by exact (pts_one (PW.pt (pw_and (pt_truth (pv 7) (fun _ => rfl)) (pw_and1 (pt_truth (pv 8) (fun _ => rfl)))))))
        (fun _ _ _ _ _ => by exact (pe_tup (pa_cons (pv 7) (pa_cons (pv 8) pa_nil))))))))))), ?_⟩
    have l1 := vb.l1
    have l4 := vb.l4
    have n0 : 0 < b.1.length := by omega
    have em : ((b.1.map V.str).length : Int) = (b.1.length : Int) := by rw [List.length_map]
    refine ⟨_, rfl, a, _, rfl, .inr (SqT.of ha), ?_⟩
    rw [em]
    have dv : ∀ k : Int, CDivW k (b.1.length : Int) → True := fun _ _ => trivial
    have small : ((b.1.length : Nat) : Int).natAbs < 2 ^ 7 := rows_small l4
    have dW : ∀ i : Int, CDivW i (b.1.length : Int) := fun i => wide_div (by omega) small (by decide) (by decide)
    refine ⟨_, rfl, _, rfl, _, _, rfl, rfl, _, _, rfl, rfl, _, rfl, _, _, rfl, rfl, dW _, ?_⟩
    have e1 : ((low : Int) + (b.1.length : Int) - 1) / (b.1.length : Int) = (((low + b.1.length - 1) / b.1.length : Nat) : Int) := by
      rw [show (low : Int) + (b.1.length : Int) - 1 = ((low + b.1.length - 1 : Nat) : Int) by omega, ← Int.natCast_ediv]
    have e2 : (high : Int) / (b.1.length : Int) = ((high / b.1.length : Nat) : Int) := (Int.natCast_ediv _ _).symm
    have ex : (low : Int) % (b.1.length : Int) = ((low % b.1.length : Nat) : Int) := (Int.natCast_emod _ _).symm
    have ey : (high : Int) % (b.1.length : Int) = ((high % b.1.length : Nat) : Int) := (Int.natCast_emod _ _).symm
    change gName 4 (V.int (((low : Int) + (b.1.length : Int) - 1) / (b.1.length : Int))) _ _ _
    rw [e1]
    refine ⟨_, rfl, _, rfl, _, _, rfl, rfl, dW _, ?_⟩
    change gName 5 (V.int ((high : Int) / (b.1.length : Int))) _ _ _
    rw [e2]
    have ly : high % b.1.length < b.1.length := Nat.mod_lt _ n0
    have lx : low % b.1.length < b.1.length := Nat.mod_lt _ n0
    refine ⟨_, rfl, _, rfl, _, _, rfl, rfl, _, rfl, ?_⟩
    have fin : ∀ {FF : Addr} {X : Hp} {us : List V} {x4 x5 : Option V}, X FF = some (.lst us) → Paired (fun b v => BkT X b v) (pieces b.1 low high) us → Same H X → tPc K [some (.ref a), some (.int low), some (.int high), some (.int b.1.length), x4, x5, some (.ref FF), none, none] X Q := fun {FF X us x4 x5} hF pr sX =>
      pc_read hF pr (pieces_len _ _ _) fun p ws X' hp pp s2 => q p ws _ X' hp pp (by rw [wr_keep]; exact wr_pieces b.1 b.2 low high n0 h1 h2) (vb_pieces vb h2) (Nat.le_trans (List.length_filter_le _ _) (pieces_len _ _ _)) (sX.trans s2)
    by_cases hc : high / b.1.length < (low + b.1.length - 1) / b.1.length
    · have ep : pieces b.1 low high = [((b.1.take (high % b.1.length)).drop (low % b.1.length), 1)] := by
        unfold pieces
        rw [if_pos hc]
      rw [decide_eq_true (by omega)]
      refine iteT ⟨_, rfl, _, rfl, _, rfl, _, _, rfl, rfl, by omega, _, rfl, _, rfl, _, rfl, _, _, rfl, rfl, by omega, _, rfl, ?_⟩
      rw [ex, ey]
      refine ⟨a, _, rfl, SqT.of ha, fun z => ?_, fun p1 n1 => ⟨(by show 2 ≤ sizeLine; decide), fun p2 n2 => ⟨(by show 1 ≤ sizeLine; decide), fun p3 n3 => ?_⟩⟩⟩
      · have z2 := z.2
        rw [HT.sIx_nat, List.length_map, Nat.min_eq_left (by omega)] at z2
        omega
      · have s1 := same_upd (o := .tup (cutV (b.1.map V.str) (some ((low % b.1.length : Nat) : Int)) (some ((high % b.1.length : Nat) : Int)))) n1
        have s2 := same_upd (o := .tup [.ref p1, .int 1]) n2
        have s3 := same_upd (o := .lst [.ref p2]) n3
        refine fin upd_same ?_ (s1.trans (s2.trans s3))
        rw [ep]
        refine .cons ⟨p2, p1, rfl, s3 _ _ upd_same, ?_⟩ .nil
        show _ = some (HO.tup (((b.1.take (high % b.1.length)).drop (low % b.1.length)).map V.str))
        rw [← cut_ab b.1 _ _ (Nat.le_of_lt ly)]
        exact (s2.trans s3) _ _ upd_same
    · have ep : pieces b.1 low high = [(if low % b.1.length = 0 then [] else b.1.drop (low % b.1.length), 1), (b.1, high / b.1.length - (low + b.1.length - 1) / b.1.length), (b.1.take (high % b.1.length), 1)] := by
        unfold pieces
        rw [if_neg hc]
      rw [decide_eq_false (by omega)]
      refine iteF ⟨_, rfl, _, rfl, _, _, rfl, rfl, by omega, _, rfl, ?_⟩
      rw [ex]
      by_cases x0 : low % b.1.length = 0
      · rw [show ((((low % b.1.length : Nat) : Int)) != 0) = false by rw [x0]; rfl]
        refine iteF ⟨(by show 0 ≤ sizeLine; decide), fun p1 n1 => ?_⟩
        have s1 := same_upd (o := .tup []) n1
        refine ⟨(by show 2 ≤ sizeLine; decide), fun p2 n2 => ⟨_, rfl, _, rfl, _, rfl, _, _, rfl, rfl, (by show 2 ≤ sizeLine; decide), fun p3 n3 => ⟨_, rfl, _, rfl, _, rfl, _, _, rfl, rfl, by omega, _, rfl, ?_⟩⟩⟩
        rw [ey]
        have s2 := same_upd (o := .tup [.ref p1, .int 1]) n2
        have s3 := same_upd (o := .tup [.ref a, .int (((high / b.1.length : Nat) : Int) - (((low + b.1.length - 1) / b.1.length : Nat) : Int))]) n3
        have sa := s1.trans (s2.trans s3)
        refine ⟨a, _, rfl, SqT.of (sa _ _ ha), fun z => ?_, fun p4 n4 => ⟨(by show 2 ≤ sizeLine; decide), fun p5 n5 => ⟨(by show 3 ≤ sizeLine; decide), fun p6 n6 => ?_⟩⟩⟩
        · have z2 := z.2
          rw [HT.sIx_nat, List.length_map, Nat.min_eq_left (by omega)] at z2
          omega
        · have s4 := same_upd (o := .tup (cutV (b.1.map V.str) none (some ((high % b.1.length : Nat) : Int)))) n4
          have s5 := same_upd (o := .tup [.ref p4, .int 1]) n5
          have s6 := same_upd (o := .lst [.ref p2, .ref p3, .ref p5]) n6
          refine fin upd_same ?_ (sa.trans (s4.trans (s5.trans s6)))
          rw [ep]
          have e3 : ((high / b.1.length : Nat) : Int) - (((low + b.1.length - 1) / b.1.length : Nat) : Int) = ((high / b.1.length - (low + b.1.length - 1) / b.1.length : Nat) : Int) := by omega
          have g4 := cut_b b.1 (high % b.1.length) (Nat.le_of_lt ly)
          refine .cons ⟨p2, p1, rfl, ((s3.trans s4).trans (s5.trans s6)) _ _ upd_same, ?_⟩ (.cons ⟨p3, a, rfl, ?_, (sa.trans (s4.trans (s5.trans s6))) _ _ ha⟩ (.cons ⟨p5, p4, rfl, s6 _ _ upd_same, ?_⟩ .nil))
          · show _ = some (HO.tup ((if low % b.1.length = 0 then [] else b.1.drop (low % b.1.length)).map V.str))
            refine ((s2.trans s3).trans (s4.trans (s5.trans s6))) _ _ ?_
            rw [if_pos x0]
            exact upd_same
          · show _ = some (HO.tup [.ref a, .int ((high / b.1.length - (low + b.1.length - 1) / b.1.length : Nat) : Int)])
            rw [← e3]
            exact (s4.trans (s5.trans s6)) _ _ upd_same
          · show _ = some (HO.tup ((b.1.take (high % b.1.length)).map V.str))
            rw [← g4]
            exact (s5.trans s6) _ _ upd_same
      · rw [show ((((low % b.1.length : Nat) : Int)) != 0) = true from bne_iff_ne.mpr (by omega)]
        refine iteT ⟨_, rfl, _, rfl, _, rfl, _, _, rfl, rfl, by omega, _, rfl, ?_⟩
        rw [ex]
        refine ⟨a, _, rfl, SqT.of ha, fun z => ?_, fun p1 n1 => ?_⟩
        · have z1 := z.1
          rw [HT.sIx_nat, List.length_map, Nat.min_eq_left (by omega)] at z1
          exact x0 z1
        have s1 := same_upd (o := .tup (cutV (b.1.map V.str) (some ((low % b.1.length : Nat) : Int)) none)) n1
        have g1 := cut_a b.1 (low % b.1.length) (Nat.le_of_lt lx)
        refine ⟨(by show 2 ≤ sizeLine; decide), fun p2 n2 => ⟨_, rfl, _, rfl, _, rfl, _, _, rfl, rfl, (by show 2 ≤ sizeLine; decide), fun p3 n3 => ⟨_, rfl, _, rfl, _, rfl, _, _, rfl, rfl, by omega, _, rfl, ?_⟩⟩⟩
        rw [ey]
        have s2 := same_upd (o := .tup [.ref p1, .int 1]) n2
        have s3 := same_upd (o := .tup [.ref a, .int (((high / b.1.length : Nat) : Int) - (((low + b.1.length - 1) / b.1.length : Nat) : Int))]) n3
        have sa := s1.trans (s2.trans s3)
        refine ⟨a, _, rfl, SqT.of (sa _ _ ha), fun z => ?_, fun p4 n4 => ⟨(by show 2 ≤ sizeLine; decide), fun p5 n5 => ⟨(by show 3 ≤ sizeLine; decide), fun p6 n6 => ?_⟩⟩⟩
        · have z2 := z.2
          rw [HT.sIx_nat, List.length_map, Nat.min_eq_left (by omega)] at z2
          omega
        · have s4 := same_upd (o := .tup (cutV (b.1.map V.str) none (some ((high % b.1.length : Nat) : Int)))) n4
          have s5 := same_upd (o := .tup [.ref p4, .int 1]) n5
          have s6 := same_upd (o := .lst [.ref p2, .ref p3, .ref p5]) n6
          refine fin upd_same ?_ (sa.trans (s4.trans (s5.trans s6)))
          rw [ep]
          have e3 : ((high / b.1.length : Nat) : Int) - (((low + b.1.length - 1) / b.1.length : Nat) : Int) = ((high / b.1.length - (low + b.1.length - 1) / b.1.length : Nat) : Int) := by omega
          have g4 := cut_b b.1 (high % b.1.length) (Nat.le_of_lt ly)
          refine .cons ⟨p2, p1, rfl, ((s3.trans s4).trans (s5.trans s6)) _ _ upd_same, ?_⟩ (.cons ⟨p3, a, rfl, ?_, (sa.trans (s4.trans (s5.trans s6))) _ _ ha⟩ (.cons ⟨p5, p4, rfl, s6 _ _ upd_same, ?_⟩ .nil))
          · show _ = some (HO.tup ((if low % b.1.length = 0 then [] else b.1.drop (low % b.1.length)).map V.str))
            refine ((s2.trans s3).trans (s4.trans (s5.trans s6))) _ _ ?_
            rw [if_neg x0, ← g1]
            exact upd_same
          · show _ = some (HO.tup [.ref a, .int ((high / b.1.length - (low + b.1.length - 1) / b.1.length : Nat) : Int)])
            rw [← e3]
            exact (s4.trans (s5.trans s6)) _ _ upd_same
          · show _ = some (HO.tup ((b.1.take (high % b.1.length)).map V.str))
            rw [← g4]
            exact (s5.trans s6) _ _ upd_same
end
end LA
end
section
set_option Elab.async false
set_option linter.all false
set_option maxRecDepth 100000
set_option maxHeartbeats 4100000
namespace LA
open PySem L2 XS XT LM XK LamX
abbrev sCut : Stmt := top 24
theorem wr_take {α : Type} {bs : List (Bk α)} {i : Nat} {b : Bk α} (h : bs[i]? = some b) : wr (bs.take (i + 1)) = wr (bs.take i) ++ one b := by
  rw [List.take_succ, h]
  show wr (bs.take i ++ [b]) = _
  rw [wr_app, wr_cons, wr_nil, List.append_nil]
section
variable {P : Program} {w : World} {K : PySem.W.Frag} {mg : Str → Option Value} {base : Heap} {t1 t2 t3 : Tok}
def spCut : Sp := fun vs H Q _ => ∃ (t : Addr) (us : List V) (bs : List (Bk Str)) (low high : Nat), vs = [.ref t, .int low, .int high] ∧ H t = some (.tup us) ∧ Paired (fun b v => BkT H b v) bs us ∧ (∀ b ∈ bs, Vb b) ∧ bs.length ≤ 1000 ∧ low ≤ high ∧
  ∀ (p : Addr) (ws : List V) (cs : List (Bk Str)) (H' : Hp), H' p = some (.tup ws) → Paired (fun b v => BkT H' b v) cs ws → wr cs = ((wr bs).take high).drop low → (∀ c ∈ cs, Vb c) → Same H H' → Q (.ref p) H'
theorem scCu : FnScope ["blocks", "low", "high", "found", "start", "lines", "times", "end"] ["blocks", "low", "high"] (defScope sCut) := ⟨rfl, rfl, rfl, by decide +kernel, rfl, by decide +kernel, by decide +kernel⟩
theorem ok_cut {f f1 : Addr} {fd fd1 : FuncData} (F : Fun K "cut" "cut" sCut f fd) (mL : mg "len" = none) (mM : mg "min" = none) (mX : mg "max" = none) (mT : mg "tuple" = none) (PC : CallOf P w K mg base 1 "piece" ["lines", "low", "high"] spPiece f1 fd1) : FnOk P w K mg base CX0 2 f fd ["blocks", "low", "high"] spCut := by
  refine F.ok scCu (fun vs H Q E h => ?_) (fun cdv A outer s H vs Q E hr h => ?_)
  · obtain ⟨t, us, bs, low, high, rfl, _⟩ := h
    rfl
  · obtain ⟨t, us, bs, low, high, rfl, ht, pr, vb, lb, lh, q⟩ := h
    refine ⟨_, pss_cons (by exact (ps_set (i := 3) scCu.nd rfl (.inl rfl) (pe_lst pa_nil)))
      (pss_cons (by exact (ps_set (i := 4) scCu.nd rfl (.inl rfl) pe_int))
      (pss_cons (by exact (ps_for PassesOwn.never rfl (pi_tup (pv 0)) (pg_tup rfl (pgs_cons (by exact (pg_name (i := 5) scCu.nd rfl (Or.inl rfl))) (pgs_cons (by exact (pg_name (i := 6) scCu.nd rfl (Or.inl rfl))) pgs_nil))) (pss_cons (by exact (ps_set (i := 7) scCu.nd rfl (.inl rfl) (pe_op op_add (pv 4) (pe_op op_mulW (pe_callB call_len_seq (by rfl) mL PySem.boot_len (pa_cons (pv 5) pa_nil)) (pv 6)))))
      (pss_cons (by exact (ps_if (PW.pt (pw_and (pt_cmpR op_lt (pv 1) (pv 7) (nomark _)) (pw_and1 (pt_cmpR op_lt (pv 4) (pv 2) (nomark _))))) (pss_one (by exact (ps_expr (pe_bm PySem.F.plainAttrs_list PySem.F.slot_list_extend PySem.F.type_list_extend mt_extend (pv 3) (pa_cons (pe_call PC.ok hr rfl PC.m PC.k PC.b .nil pass0 (pa_cons (pv 5) (pa_cons (pe_op op_sub (pe_callB (call_max2 rfl) (by rfl) mX (by decide +kernel) (pa_cons (pv 1) (pa_cons (pv 4) pa_nil))) (pv 4)) (pa_cons (pe_op op_sub (pe_callB (call_min2 rfl) (by rfl) mM (by decide +kernel) (pa_cons (pv 2) (pa_cons (pv 7) pa_nil))) (pv 4)) pa_nil)))) pa_nil))))) pss_nil))
      (pss_one (by exact (ps_set (i := 4) scCu.nd rfl (.inl rfl) (pv 7))))))))
      (pss_one (by exact (ps_ret (pe_tupleOf rfl mT (pv 3))))))), ?_⟩
    refine ⟨(by show 0 ≤ sizeLine; decide), fun F nF => ?_⟩
    refine ⟨_, rfl, t, rfl, ⟨_, SqT.of ((same_upd nF) _ _ ht)⟩, for_tup (K := K) (a := t) (xs := us) (fun i σ X => (∃ (x5 x6 x7 : Option V), σ = [some (.ref t), some (.int low), some (.int high), some (.ref F), some (.int ((wr (bs.take i)).length : Int)), x5, x6, x7]) ∧
      (∃ ws cs, X F = some (.lst ws) ∧ Paired (fun b v => BkT X b v) cs ws ∧ wr cs = ((wr (bs.take i)).take high).drop low ∧ (∀ c ∈ cs, Vb c) ∧ cs.length ≤ 3 * i) ∧ Same H X) ⟨⟨none, none, none, rfl⟩, ⟨[], [], upd_same, .nil, by simp [wr_nil], fun c h => (by cases h), Nat.zero_le _⟩, same_upd nF⟩ (fun i σ X _ p => SqT.of (p.2.2 _ _ ht)) (fun i x σ X hx p => ?_) (fun σ X p => ?_)⟩
    · obtain ⟨⟨x5, x6, x7, rfl⟩, ⟨ws, cs, pF, pp, pw, pv0, pl⟩, pS⟩ := p
      obtain ⟨b, hb, tb, ab, rfl, h1, h2⟩ := pair_at pr hx
      have v := vb b (List.mem_of_getElem? hb)
      have hi : i < bs.length := (List.getElem?_eq_some_iff.mp hb).1
      refine ⟨tb, _, rfl, SqT.of (pS _ _ h1), rfl, _, _, rfl, _, _, rfl, rfl, ?_⟩
      have e1 : ((b.1.map V.str).length : Int) = (b.1.length : Int) := by rw [List.length_map]
      have wt := wr_take hb
      have wl : ((wr (bs.take i)).length : Int) + ((b.1.map V.str).length : Int) * (b.2 : Int) = ((wr (bs.take (i + 1))).length : Int) := by
        rw [wt, List.length_append, len_one, e1, Int.natCast_add, Int.natCast_mul]
      refine ⟨_, rfl, _, rfl, ab, _, rfl, .inr (SqT.of (pS _ _ h2)), _, rfl, _, _, rfl, rfl, wide_mul (by rw [e1]; exact rows_small v.l4) (times_small v.t30) (by decide) (by decide) (by decide), _, _, rfl, rfl, ?_⟩
      change gName 7 (V.int (((wr (bs.take i)).length : Int) + ((b.1.map V.str).length : Int) * (b.2 : Int))) _ _ _
      rw [wl]
      have nxt : ∀ {A B : List Str}, B = [] → A ++ B = A := fun {A B} e => by rw [e, List.append_nil]
      have stay : ((one b).take (high - (wr (bs.take i)).length)).drop (low - (wr (bs.take i)).length) = [] → wr cs = ((wr (bs.take (i + 1))).take high).drop low := fun e => by rw [wt, cut_next, e, List.append_nil, pw]
      have l2 : (wr (bs.take (i + 1))).length = (wr (bs.take i)).length + (one b).length := by rw [wt, List.length_append]
      generalize hS : (wr (bs.take i)).length = S at *
      generalize hE : (wr (bs.take (i + 1))).length = Z at *
      refine ⟨_, rfl, _, rfl, _, _, rfl, rfl, _, rfl, ?_⟩
      by_cases c1 : low < Z
      · rw [decide_eq_true (show (low : Int) < (Z : Int) by omega)]
        refine iteT ⟨_, rfl, _, rfl, _, _, rfl, rfl, _, rfl, ?_⟩
        by_cases c2 : S < high
        · rw [decide_eq_true (show (S : Int) < (high : Int) by omega)]
          have el : (if (S : Int) > (low : Int) then (S : Int) else (low : Int)) - (S : Int) = ((low - S : Nat) : Int) := by split <;> omega
          have eh : (if (Z : Int) < (high : Int) then (Z : Int) else (high : Int)) - (S : Int) = ((min high Z - S : Nat) : Int) := by split <;> omega
          refine iteT ⟨_, rfl, .inl ⟨rfl, _, SqL.of pF⟩, ?_⟩
          refine ⟨_, rfl, _, rfl, _, rfl, _, _, rfl, _, rfl, _, _, rfl, rfl, _, rfl, _, rfl, _, _, rfl, _, rfl, _, _, rfl, rfl, ?_⟩
          rw [len_one] at l2
          refine ⟨ab, b, low - S, min high Z - S, ?_, pS _ _ h2, v, by omega, by omega, fun p us2 ps X' hp pp2 pw2 pv2 pl2 s2 => ?_⟩
          · show [V.ref ab, V.int ((if (S : Int) > (low : Int) then (S : Int) else (low : Int)) - (S : Int)), V.int ((if (Z : Int) < (high : Int) then (Z : Int) else (high : Int)) - (S : Int))] = _
            rw [el, eh]
          have pF2 := s2 _ _ pF
          refine ⟨F, p, ws, us2, rfl, rfl, pF2, hp, ?_, ?_⟩
          · have q1 := pair_len pp
            have q2 := pair_len pp2
            exact Nat.le_trans (show ws.length + us2.length ≤ 10000 by omega) (by decide)
          · have bt : But F X' (upd X' F (.lst (ws ++ us2))) := but_upd
            have noT : ∀ xs, X' F ≠ some (.tup xs) := fun xs e => by
              rw [pF2] at e
              cases e
            refine ⟨_, rfl, ⟨_, _, _, rfl⟩, ⟨ws ++ us2, cs ++ ps, upd_same, pair_app (L2.Paired.mapP (bkT_same s2 pp) fun _ _ z => z.but noT bt) (L2.Paired.mapP pp2 fun _ _ z => z.but noT bt), ?_, fun c hc => ?_, ?_⟩, ?_⟩
            · have e3 : ((one b).take (min high Z - S)) = (one b).take (high - S) := by
                by_cases z : high ≤ Z
                · rw [Nat.min_eq_left z]
                · rw [Nat.min_eq_right (by omega), List.take_of_length_le (by rw [len_one]; omega), List.take_of_length_le (by rw [len_one]; omega)]
              rw [wr_app, pw, pw2, wt, cut_next, hS, e3]
            · rcases List.mem_append.mp hc with z | z
              · exact pv0 c z
              · exact pv2 c z
            · rw [List.length_append]
              omega
            · intro c o e
              rw [upd_ne (ne_of_none e nF)]
              exact s2 _ _ (pS _ _ e)
        · rw [decide_eq_false (show ¬ (S : Int) < (high : Int) by omega)]
          refine iteF ⟨_, rfl, ⟨_, _, _, rfl⟩, ⟨ws, cs, pF, pp, stay ?_, pv0, by omega⟩, pS⟩
          rw [Nat.sub_eq_zero_of_le (show high ≤ S by omega), List.take_zero, List.drop_nil]
      · rw [decide_eq_false (show ¬ (low : Int) < (Z : Int) by omega)]
        refine iteF (iteF ⟨_, rfl, ⟨_, _, _, rfl⟩, ⟨ws, cs, pF, pp, stay ?_, pv0, by omega⟩, pS⟩)
        exact List.drop_eq_nil_of_le (by rw [List.length_take]; omega)
    · obtain ⟨⟨x5, x6, x7, rfl⟩, ⟨ws, cs, pF, pp, pw, pv0, pl⟩, pS⟩ := p
      rw [← pair_len pr, List.take_length] at pw
      refine ⟨_, rfl, .inl ⟨F, ws, rfl, SqL.of pF, fun p np => ?_⟩⟩
      have sp := same_upd (o := .tup ws) np
      exact q p ws cs _ upd_same (bkT_same sp pp) pw pv0 (pS.trans sp)
end
end LA
end
section
set_option Elab.async false
set_option linter.all false
set_option maxRecDepth 100000
set_option maxHeartbeats 4100000
namespace XC
open PySem PySem.Spec PyProof.Rows L2
/-! ### [e for .. for .. for ..] -/
/-- the display with its three clauses -/
abbrev L3 (e t0 i0 t1 i1 t2 i2 : Expr) (c0 c1 c2 : List Expr) (scope : Scope) (pos : Pos) : Expr := .ListComp e [⟨t0, i0, c0, 0⟩, ⟨t1, i1, c1, 0⟩, ⟨t2, i2, c2, 0⟩] scope pos
/-- a turn that ends in the next clause's loop -/
def turnTo (C : Expr) (k : Nat) (t i i1 : Expr) (cs : List Expr) (it acc : Value) (env : Env) : Sem PySem.Fin := do
      standAt i.pos
      match ← pyNext it with
      | none => pure (.done .next)
      | some v =>
        letOwnedTupleGo t it v
        assign t env v
        let mut ok := true
        for c in cs do
          if ok then ok ← isTrue c env (eval c env)
        if ok then
          let x ← eval i1 env
          standAt i1.pos
          let x ← foldedSetIterable i1 env x
          let _ ← runOwn (.compStart C (k + 1) (← holding [x] (pyIter x)) acc env) env
        again (.compLoop C k it acc env)
/-- a turn that ends in the element -/
def turnEl (C : Expr) (k : Nat) (t i e : Expr) (cs : List Expr) (it acc : Value) (env : Env) : Sem PySem.Fin := do
      standAt i.pos
      match ← pyNext it with
      | none => pure (.done .next)
      | some v =>
        letOwnedTupleGo t it v
        assign t env v
        let mut ok := true
        for c in cs do
          if ok then ok ← isTrue c env (eval c env)
        if ok then
          (do let _ ← call (.builtin "list.append") [acc, ← eval e env])
        again (.compLoop C k it acc env)
section
variable {e t0 i0 t1 i1 t2 i2 : Expr} {c0 c1 c2 : List Expr} {scope : Scope} {pos : Pos} {it acc : Value} {env : Env}
theorem turn3_0 : compTurn (L3 e t0 i0 t1 i1 t2 i2 c0 c1 c2 scope pos) 0 it acc env = turnTo (L3 e t0 i0 t1 i1 t2 i2 c0 c1 c2 scope pos) 0 t0 i0 i1 c0 it acc env := by rfl
theorem turn3_1 : compTurn (L3 e t0 i0 t1 i1 t2 i2 c0 c1 c2 scope pos) 1 it acc env = turnTo (L3 e t0 i0 t1 i1 t2 i2 c0 c1 c2 scope pos) 1 t1 i1 i2 c1 it acc env := by rfl
theorem turn3_2 : compTurn (L3 e t0 i0 t1 i1 t2 i2 c0 c1 c2 scope pos) 2 it acc env = turnEl (L3 e t0 i0 t1 i1 t2 i2 c0 c1 c2 scope pos) 2 t2 i2 e c2 it acc env := by rfl
end
section
variable {prog : Program} {w : World} {A : Around} {R : Result → Shared → Prop} {s : Shared} {t i i1 e : Expr} {gens : List Comprehension} {scope : Scope} {pos : Pos} {cs : List Expr} {k : Nat} {it acc : Value} {env : Env}
/-- what a turn of a clause asks, its body told by B -/
def Turns (prog : Program) (w : World) (A : Around) (R : Result → Shared → Prop) (t : Expr) (cs : List Expr) (it : Value) (env : Env) (Ix : Nat → Shared → Prop) (B : Nat → Shared → Prop) : Prop :=
  ∀ n s, Ix n s → wpAny (model prog w) A (pyNext it) (fun r s1 => match r with
      | none => R (.ok .next) s1
      | some v => wpAny (model prog w) A (letOwnedTupleGo t it v) (fun _ s2 => wpAny (model prog w) A (assign t env v) (fun _ s3 =>
          wpAny (model prog w) A (forIn cs true fun c r => if r = true then do let ok ← isTrue c env (eval c env); pure (ForInStep.yield ok) else pure (ForInStep.yield r)) (fun ok s4 =>
            if ok = true then B n s4 else ∃ m, m < n ∧ Ix m s4) (notedBy (model prog w) A env fun x s' => R (.error x) s') s3) (notedBy (model prog w) A env fun x s' => R (.error x) s') s2) (notedBy (model prog w) A env fun x s' => R (.error x) s') s1) (notedBy (model prog w) A env fun x s' => R (.error x) s') s
/-- the loop of a clause that has another one behind it -/
theorem loop_to (eq : ∀ it, compTurn (.ListComp e gens scope pos) k it acc env = turnTo (.ListComp e gens scope pos) k t i i1 cs it acc env) (hs : ∀ x, foldedSetIterable i1 env x = pure x) (Ix : Nat → Shared → Prop)
    (turn : Turns prog w A R t cs it env Ix fun n s4 => wpAny (model prog w) A (eval i1 env) (fun x s5 => wpAny (model prog w) A (pyIter x) (fun it1 s6 =>
              codeAny (model prog w) A (.compStart (.ListComp e gens scope pos) (k + 1) it1 acc env) (fun r s' => match r with
                | .ok _ => ∃ m, m < n ∧ Ix m s'
                | .error _ => False) s6) (notedBy (model prog w) A env fun x s' => R (.error x) s') s5) (notedBy (model prog w) A env fun x s' => R (.error x) s') s4)
    (n : Nat) (h : Ix n s) : codeAny (model prog w) A (.compLoop (.ListComp e gens scope pos) k it acc env) R s := by
  refine codeAny_loop rfl Ix (fun n s hI => ?_) n h
  show wpAny _ A ((compTurn (.ListComp e gens scope pos) k it acc env).onRaise (fun x => do noteFrame x env; theTreesLotGoes x)) _ _ s
  refine wpAny_noted ?_
  rw [eq]
  unfold turnTo
  have hh := turn n s hI
  refine wpAny_bind (wpAny_standAt (wpAny_bind (wpAny_mono hh (fun r s1 h1 => ?_) fun _ _ y => y)))
  cases r with
  | none => exact wpAny_pure h1
  | some v =>
    refine wpAny_bind (wpAny_mono h1 (fun _ s2 h2 => ?_) fun _ _ y => y)
    refine wpAny_bind (wpAny_mono h2 (fun _ s3 h3 => wpAny_bind (wpAny_mono h3 (fun ok s4 h4 => ?_) fun _ _ y => y)) fun _ _ y => y)
    cases ok with
    | false => exact wpAny_pure ⟨rfl, h4⟩
    | true =>
      refine wpAny_bind (wpAny_mono h4 (fun x s5 h5 => ?_) fun _ _ y => y)
      refine wpAny_bind (wpAny_standAt (wpAny_bind (wpAny_of_eq (hs x) (wpAny_bind (wpAny_holding (wpAny_mono h5 (fun it1 s6 h6 => ?_) fun _ _ y => y))))))
      refine wpAny_bind (wpAny_runOwn ?_)
      rw [Around.mark_none]
      refine codeAny_mono h6 fun r s' hr => ?_
      cases r with
      | ok f =>
        first
          | exact wpAny_pure ⟨rfl, hr⟩
          | exact wpAny_bind (wpAny_pure (wpAny_pure ⟨rfl, hr⟩))
      | error x => exact hr.elim
/-- the last clause's loop -/
theorem loop_el (eq : ∀ it, compTurn (.ListComp e gens scope pos) k it acc env = turnEl (.ListComp e gens scope pos) k t i e cs it acc env) (Ix : Nat → Shared → Prop)
    (turn : Turns prog w A R t cs it env Ix fun n s4 => wpAny (model prog w) A (eval e env) (fun x s5 =>
              wpAny (model prog w) A (call (.builtin "list.append") [acc, x]) (fun _ s6 => ∃ m, m < n ∧ Ix m s6) (notedBy (model prog w) A env fun x s' => R (.error x) s') s5) (notedBy (model prog w) A env fun x s' => R (.error x) s') s4)
    (n : Nat) (h : Ix n s) : codeAny (model prog w) A (.compLoop (.ListComp e gens scope pos) k it acc env) R s := by
  refine codeAny_loop rfl Ix (fun n s hI => ?_) n h
  show wpAny _ A ((compTurn (.ListComp e gens scope pos) k it acc env).onRaise (fun x => do noteFrame x env; theTreesLotGoes x)) _ _ s
  refine wpAny_noted ?_
  rw [eq]
  unfold turnEl
  have hh := turn n s hI
  refine wpAny_bind (wpAny_standAt (wpAny_bind (wpAny_mono hh (fun r s1 h1 => ?_) fun _ _ y => y)))
  cases r with
  | none => exact wpAny_pure h1
  | some v =>
    refine wpAny_bind (wpAny_mono h1 (fun _ s2 h2 => ?_) fun _ _ y => y)
    refine wpAny_bind (wpAny_mono h2 (fun _ s3 h3 => wpAny_bind (wpAny_mono h3 (fun ok s4 h4 => ?_) fun _ _ y => y)) fun _ _ y => y)
    cases ok with
    | false => exact wpAny_pure ⟨rfl, h4⟩
    | true =>
      refine wpAny_bind (wpAny_bind (wpAny_mono h4 (fun x s5 h5 => wpAny_bind (wpAny_mono h5 (fun _ s6 h6 => ?_) fun _ _ y => y)) fun _ _ y => y))
      exact wpAny_pure (wpAny_pure ⟨rfl, h6⟩)
end
section
variable {prog : Program} {w : World} {A : Around} {R : Result → Shared → Prop} {s : Shared} {e t0 i0 t1 i1 t2 i2 : Expr} {c0 c1 c2 : List Expr} {scope : Scope} {pos : Pos} {it acc : Value} {env : Env}
theorem start_1 (h0 : codeAny (model prog w) A (.compLoop (L3 e t0 i0 t1 i1 t2 i2 c0 c1 c2 scope pos) 1 it acc env) R s)
    (h : wpAny (model prog w) A (pyIter it) (fun it' s' => codeAny (model prog w) A (.compLoop (L3 e t0 i0 t1 i1 t2 i2 c0 c1 c2 scope pos) 1 it' acc env) R s') (notedBy (model prog w) A env fun x s' => R (.error x) s') s) :
    codeAny (model prog w) A (.compStart (L3 e t0 i0 t1 i1 t2 i2 c0 c1 c2 scope pos) 1 it acc env) R s := by
  refine codeAny_of_tree ?_
  show wpAny _ _ ((compStart (L3 e t0 i0 t1 i1 t2 i2 c0 c1 c2 scope pos) 1 it acc env).onRaise (fun x => do noteFrame x env; standAt theWindowsPlace)) _ _ s
  refine wpAny_notedAt ?_
  unfold compStart
  show wpAny _ _ (ask >>= _) _ _ s
  refine wpAny_bind
        (wpAny_askSetting (wpAny_ite ?_))
  split
  · first
      | exact wpAny_bind (wpAny_pure (wpAny_pure
            (And.intro rfl h0)))
      | exact wpAny_pure
            (And.intro rfl h0)
  · first
      | exact wpAny_bind (wpAny_rule (wpAny_bind (wpAny_standAt (wpAny_bind (wpAny_mono h (fun _ _ y => wpAny_pure (And.intro rfl y)) fun _ _ y => y)))))
      | (refine wpAny_bind (wpAny_rule ?_); show wpAny _ _ (standAt i1.pos >>= _) _ _ s; exact wpAny_bind (wpAny_standAt (wpAny_bind (wpAny_mono h (fun _ _ y => wpAny_pure (And.intro rfl y)) fun _ _ y => y))))
theorem start_2 (h0 : codeAny (model prog w) A (.compLoop (L3 e t0 i0 t1 i1 t2 i2 c0 c1 c2 scope pos) 2 it acc env) R s)
    (h : wpAny (model prog w) A (pyIter it) (fun it' s' => codeAny (model prog w) A (.compLoop (L3 e t0 i0 t1 i1 t2 i2 c0 c1 c2 scope pos) 2 it' acc env) R s') (notedBy (model prog w) A env fun x s' => R (.error x) s') s) :
    codeAny (model prog w) A (.compStart (L3 e t0 i0 t1 i1 t2 i2 c0 c1 c2 scope pos) 2 it acc env) R s := by
  refine codeAny_of_tree ?_
  show wpAny _ _ ((compStart (L3 e t0 i0 t1 i1 t2 i2 c0 c1 c2 scope pos) 2 it acc env).onRaise (fun x => do noteFrame x env; standAt theWindowsPlace)) _ _ s
  refine wpAny_notedAt ?_
  unfold compStart
  show wpAny _ _ (ask >>= _) _ _ s
  refine wpAny_bind
        (wpAny_askSetting (wpAny_ite ?_))
  split
  · first
      | exact wpAny_bind (wpAny_pure (wpAny_pure
            (And.intro rfl h0)))
      | exact wpAny_pure
            (And.intro rfl h0)
  · first
      | exact wpAny_bind (wpAny_rule (wpAny_bind (wpAny_standAt (wpAny_bind (wpAny_mono h (fun _ _ y => wpAny_pure (And.intro rfl y)) fun _ _ y => y)))))
      | (refine wpAny_bind (wpAny_rule ?_); show wpAny _ _ (standAt i2.pos >>= _) _ _ s; exact wpAny_bind (wpAny_standAt (wpAny_bind (wpAny_mono h (fun _ _ y => wpAny_pure (And.intro rfl y)) fun _ _ y => y))))
end
/-! ### the clauses within a block -/
section
variable {Y : Cx}
/-- what a clause behind the first one asks: B is what stands behind it, from which Nx is reached -/
def tIn (wi : TI) (g : TG) (tt : TT) (B : L2.St → Hp → (Hp → Prop) → Prop) (vs : List Nat) : L2.St → Hp → (Hp → Prop) → Prop := fun σ H Nx => wi σ H fun J H1 => ∃ W : Nat → Nat → Hp → Prop, (∃ m, W 0 m H1) ∧ ∀ j k H2, W j k H2 →
  (J.stop j H2 ∧ Nx H2) ∨ (J.go j H2 ∧ ∃ Ny : Hp → Prop, (∀ H', Ny H' → ∃ m, m < k ∧ W (j + 1) m H') ∧ ∀ x H', J.yld j H2 x H' → g x (wipe σ vs) H' fun σ1 H3 => wipe σ1 vs = wipe σ vs ∧ tt σ1 H3 fun b H4 => if b = true then B σ1 H4 Ny else Ny H4)
/-- the element -/
def tEl (te : TE) (D : Addr) : L2.St → Hp → (Hp → Prop) → Prop := fun σ H Nx => te σ H fun y H1 => ∃ acc, H1 D = some (.lst acc) ∧ acc.length < sizeLine ∧ Nx (upd H1 D (.lst (acc ++ [y])))
/-- code that ends in Fin where B is asked -/
def Runs (Y : Cx) (B : L2.St → Hp → (Hp → Prop) → Prop) (vs : List Nat) (inner : (Shared → Prop) → (Value → Shared → Prop) → Shared → Prop) : Prop :=
  ∀ (pins : List (Addr × Obj)) (s : Shared) (σ : L2.St) (H : Hp) (Nx : Hp → Prop) (Fi : Shared → Prop) (Er : Value → Shared → Prop), Inv Y pins σ H s → B σ H Nx →
    (∀ σ' s' H', Inv Y pins σ' H' s' → σ'.length = σ.length → (∀ (j : Nat) v, (wipe σ vs)[j]? = some (some v) → σ'[j]? = some (some v)) → Nx H' → Fi s') → inner Fi Er s
/-- the element's code -/
abbrev elC (Y : Cx) (e : Expr) (acc : Value) : (Shared → Prop) → (Value → Shared → Prop) → Shared → Prop := fun Fi Er s => wpAny (model Y.prog Y.w) Y.A (eval e Y.env) (fun x s5 => wpAny (model Y.prog Y.w) Y.A (call (.builtin "list.append") [acc, x]) (fun _ s6 => Fi s6) Er s5) Er s
/-- the next clause's code -/
abbrev nxC (Y : Cx) (C : Expr) (k : Nat) (i1 : Expr) (acc : Value) : (Shared → Prop) → (Value → Shared → Prop) → Shared → Prop := fun Fi Er s => wpAny (model Y.prog Y.w) Y.A (eval i1 Y.env) (fun x s5 => wpAny (model Y.prog Y.w) Y.A (pyIter x) (fun it1 s6 =>
  codeAny (model Y.prog Y.w) Y.A (.compStart C k it1 acc Y.env) (fun r s' => match r with
    | .ok _ => Fi s'
    | .error _ => False) s6) Er s5) Er s
theorem no_err {α : Type} {t : Sem α} {Q Q' : α → Shared → Prop} {M : Model} {A : Around} {Ex E : Value → Shared → Prop} {s : Shared} (no : ∀ x s', Ex x s' → False) (h : wpAny M A t Q Ex s) (hQ : ∀ a s', Q a s' → Q' a s') : wpAny M A t Q' E s := wpAny_mono h hQ fun x s' z => (no x s' z).elim
theorem runs_el {e : Expr} {te : TE} {D : Addr} (no : ∀ x s', Y.xe x s' → False) (pe : PE Y e te) : Runs Y (tEl te D) [] (elC Y e (.ref D)) := by
  intro pins s σ H Nx Fi Er I q fin
  refine no_err no (pe.run pins s σ H _ I q) fun z s5 ⟨y, H1, I1, r, acc, hD, hz, nx⟩ => ?_
  exact app_ok I1 hD hz r fun s6 I6 => fin σ s6 _ I6 rfl (fun j v e => e) nx
theorem runs_in {C iter tg : Expr} {k : Nat} {ifs : List Expr} {wi : TI} {g : TG} {tt : TT} {B : L2.St → Hp → (Hp → Prop) → Prop} {vs vb : List Nat} {D : Addr} {inner : (Shared → Prop) → (Value → Shared → Prop) → Shared → Prop}
    (no : ∀ x s', Y.xe x s' → False) (calm : Y.calm = true) (pi : PI Y tg iter wi) (pg : PG Y tg g) (pt : PTs Y ifs tt) (sub : ∀ i ∈ vb, i ∈ vs) (RB : Runs Y B vb inner)
    (loop : ∀ (R : Result → Shared → Prop) (it : Value) (Ix : Nat → Shared → Prop) (n : Nat) (s : Shared), Turns Y.prog Y.w Y.A R tg ifs it Y.env Ix (fun n s4 => inner (fun s' => ∃ m, m < n ∧ Ix m s') (notedBy (model Y.prog Y.w) Y.A Y.env fun x s' => R (.error x) s') s4) → Ix n s → codeAny (model Y.prog Y.w) Y.A (.compLoop C k it (.ref D) Y.env) R s)
    (start : ∀ (R : Result → Shared → Prop) (it : Value) (s : Shared), codeAny (model Y.prog Y.w) Y.A (.compLoop C k it (.ref D) Y.env) R s → wpAny (model Y.prog Y.w) Y.A (pyIter it) (fun it' s' => codeAny (model Y.prog Y.w) Y.A (.compLoop C k it' (.ref D) Y.env) R s') (notedBy (model Y.prog Y.w) Y.A Y.env fun x s' => R (.error x) s') s →
      codeAny (model Y.prog Y.w) Y.A (.compStart C k it (.ref D) Y.env) R s) : Runs Y (tIn wi g tt B vs) vs (nxC Y C k iter (.ref D)) := by
  intro pins s σ H Nx Fi Er I q fin
  refine no_err no (pi.run pins s σ H _ I q) fun xv s10 hx => no_err no hx fun itv s11 h11 => ?_
  obtain ⟨it, fp, tn, J, H11, e1, I11, T, st11, f11, W, ⟨m1, w1⟩, turn⟩ := h11
  subst e1
  have stat : ∀ {H' : Hp}, (∀ b ∈ fp, H' b = none) → ∀ b ∈ fp, FpOk Y pins H' b := fun hn b hb => ⟨hn b hb, (f11 b hb).2⟩
  have run : codeAny (model Y.prog Y.w) Y.A (.compLoop C k (.ref it) (.ref D) Y.env) (fun r s' => match r with
      | .ok _ => Fi s'
      | .error _ => False) s11 := by
    refine loop _ (.ref it) (fun n s' => ∃ j H', Inv Y pins (wipe σ vs) H' s' ∧ tn j s'.heap ∧ (∀ b ∈ fp, H' b = none) ∧ W j n H') m1 s11 ?_ ⟨0, H11, I11.weak (wipe_length _ _) (fun j v e => (wipe_some e).1), st11, fun b hb => (f11 b hb).1, w1⟩
    rintro n s12 ⟨j, H12, I12, st12, n12, w12⟩
    rcases turn j n H12 w12 with ⟨stop, nx⟩ | ⟨go, Ny, hNy, step⟩
    · refine thnF (T.done Y rfl rfl rfl calm j _ s12 (wipe σ vs) H12 (fun _ _ => False) I12 (stat n12) st12 stop) fun r s13 ⟨hr, I13⟩ => ?_
      subst hr
      exact fin _ s13 H12 I13 (wipe_length _ _) (fun j v e => e) nx
    · refine thnF (T.item Y rfl rfl rfl calm j _ s12 (wipe σ vs) H12 (fun _ _ => False) I12 (stat n12) st12 go) fun r s13 ⟨u1, hr, h13⟩ => ?_
      subst hr
      refine thnF h13 fun _ s14 ⟨x1, H14, I14, r14, y14, st14, n14⟩ => ?_
      have I14' := I14.pinned (stat n14) (T.obj _ _ st14)
      refine no_err no (pg.run _ s14 (wipe σ vs) H14 x1 u1 _ I14' r14 (step x1 H14 y14)) fun _ s15 ⟨σ15, H15, I15, hw15, q15⟩ => ?_
      refine no_err no (pt.run _ s15 σ15 H15 _ I15 q15) fun b1 s16 ⟨H16, I16, q16⟩ => ?_
      have l15 : σ15.length = σ.length := by rw [← wipe_length σ15 vs, hw15, wipe_length]
      have back : ∀ σ' s' H', Inv Y (pins ++ pinsAt fp s14.heap) σ' H' s' → σ'.length = σ15.length → (∀ (j : Nat) v, (wipe σ15 vb)[j]? = some (some v) → σ'[j]? = some (some v)) → Ny H' →
          ∃ m, m < n ∧ ∃ j H', Inv Y pins (wipe σ vs) H' s' ∧ tn j s'.heap ∧ (∀ b ∈ fp, H' b = none) ∧ W j m H' := fun σ' s' H' I' hl hk nx => by
        obtain ⟨m', hm, w'⟩ := hNy H' nx
        have pin' : ∀ b ∈ fp, ∀ o, s14.heap.get? b = some o → s'.heap.get? b = some o ∧ H' b = none := fun b hb o e =>
          let z := I'.pin (b, o) (List.mem_append_right _ (List.mem_append_right _ (mem_pinsAt hb e)))
          ⟨z.1, z.2.1⟩
        refine ⟨m', hm, j + 1, H', I'.unpinned.weak (by rw [wipe_length, hl, l15]) (fun i v e => ?_), T.keep _ _ _ st14 fun b hb o e => (pin' b hb o e).1, fun b hb => ?_, w'⟩
        · rw [← hw15] at e
          obtain ⟨e1, e2⟩ := wipe_some e
          exact hk i v (by rw [wipe_out fun z => e2 (sub i z)]; exact e1)
        · obtain ⟨o, e, _⟩ := T.obj _ _ st14 b hb
          exact (pin' b hb o e).2
      cases b1 with
      | false =>
        simp only [Bool.false_eq_true, if_false] at q16 ⊢
        exact back σ15 s16 H16 I16 rfl (fun j v e => (wipe_some e).1) q16
      | true =>
        simp only [if_true] at q16 ⊢
        exact RB _ s16 σ15 H16 Ny _ _ I16 q16 back
  exact start _ (.ref it) s11 run (T.self Y.A 0 _ _ _ st11 run)
end
end XC
end
section
set_option Elab.async false
set_option linter.all false
set_option maxRecDepth 100000
set_option maxHeartbeats 4100000
namespace XC
open PySem PySem.Spec PyProof.Rows L2
/-! ### the outermost clause -/
section
variable {X : Cx} {e t0 i0 t1 i1 t2 i2 : Expr} {c0 c1 c2 : List Expr} {scope : Scope} {pos : Pos} {own : List (Str × Nat)} {vs1 vs2 : List Nat} {wi wi1 wi2 : TI} {g g1 g2 : TG} {tt tt1 tt2 : TT} {te : TE}
def tLc3 (wi : TI) (g : TG) (tt : TT) (B : Addr → L2.St → Hp → (Hp → Prop) → Prop) (vs : List Nat) : TE := fun σ H Q => wi σ H fun J H1 => ∀ D, H1 D = none → ∃ W : Nat → Nat → Hp → Prop, (∃ m, W 0 m (upd H1 D (.lst []))) ∧
  ∀ j k H2, W j k H2 → (J.stop j H2 ∧ Q (.ref D) H2) ∨
    (J.go j H2 ∧ ∃ Ny : Hp → Prop, (∀ H', Ny H' → ∃ m, m < k ∧ W (j + 1) m H') ∧ ∀ x H', J.yld j H2 x H' → g x (wipe σ vs) H' fun σ1 H3 => wipe σ1 vs = wipe σ vs ∧ tt σ1 H3 fun b H4 => if b = true then B D σ1 H4 Ny else Ny H4)
theorem lc3_core {B : Addr → L2.St → Hp → (Hp → Prop) → Prop} {pins : List (Addr × Obj)} {s : Shared} {σ : L2.St} {H : Hp} {Q : VK} {pz : Pos} {use : Option (Value → Sem Unit)} {Qf : Value → Shared → Prop} (calm : X.calm = true) (nd : X.N.Nodup) (I : Inv X pins σ H s) (hi : PI X t0 i0 wi) (ok : BlkOk X.N X.env.scope scope own) (sub : ∀ i ∈ vs1, i ∈ own.map (·.2))
    (hg : ∀ s H C cl fp, PG (X.blk s H scope (compEnvC scope cl C X.env) fp) t0 g) (ht : ∀ s H C cl fp, PTs (X.blk s H scope (compEnvC scope cl C X.env) fp) c0 tt)
    (RB : ∀ s H C cl fp D, Runs (X.blk s H scope (compEnvC scope cl C X.env) fp) (B D) vs1 (nxC (X.blk s H scope (compEnvC scope cl C X.env) fp) (L3 e t0 i0 t1 i1 t2 i2 c0 c1 c2 scope pos) 1 i1 (.ref D)))
    (f0 : ∀ x, foldedSetIterable i0 X.env x = pure x) (f1 : ∀ env x, foldedSetIterable i1 env x = pure x) (h : tLc3 wi g tt B (own.map (·.2)) σ H Q)
    (last : ∀ D C s' m H', Inv X pins σ H' s' → Q (.ref D) H' → s'.heap.Ns C m → FpOk X pins H' C → compPost (model X.prog X.w) X.A X.xe use Qf (.ref D) C (.ok .next) s') :
    wpAny (model X.prog X.w) X.A (comprehension (L3 e t0 i0 t1 i1 t2 i2 c0 c1 c2 scope pos) scope X.env pz (newList []) false (eval i0 X.env) use) Qf X.xe s := by
  have caught : ∀ y ∈ scope.names, y.2 = .free → ∃ c, X.env.cells.lookup y.1 = some c := fun y hy z => by
    rcases ok.free y hy z with k | k
    · exact I.ok.has _ (.inl k)
    · exact I.ok.has _ (.inr k)
  refine wpAny_comprehension_free (use := use) rfl f0 (closure_ok caught) ok.kind (fun y hy z => by rw [ok.uniq y hy, z]) (thn (hi.run pins s σ H _ I h) fun xv s1 hx => thn hx fun itv s2 h2 => ?_)
  obtain ⟨it, fp, tn, J, H2, e0, I2, T, st2, fp2, q⟩ := h2
  subst e0
  refine wpAny_newObj_type (newEnv_comp ?_) (by show 0 ≤ sizeLine; decide)
  generalize hD : s2.heap.objs.size = D
  have nD : H2 D = none := I2.hok.fresh (Nat.le_of_eq hD)
  obtain ⟨W, ⟨m0, w0⟩, turn⟩ := q D nD
  generalize hs3 : ({ s2 with heap := s2.heap.push { cls := .type "list", data := .seq ([] : List Value).toArray } } : Shared) = s3
  have I3 : Inv X pins σ (upd H2 D (.lst [])) s3 := by
    rw [← hs3]
    refine I2.laid (t' := s2.toks) (fun b o z => Heap.get?_push_of_some _ z) (Nat.le_of_eq hD) ⟨Nat.zero_le _, [], 0, .nil, ?_⟩
    rw [← hD]
    exact Heap.get?_push_size _ rfl
  have h3 : s3.heap = s2.heap.push { cls := .type "list", data := .seq ([] : List Value).toArray } := by
    rw [← hs3]
  have lt2 : ∀ b ∈ fp, b < s2.heap.objs.size := fun b hb => by
    obtain ⟨o, z, _⟩ := T.obj _ _ st2 b hb
    exact Heap.lt_size z
  have fp3 : ∀ b ∈ fp, FpOk X pins (upd H2 D (.lst [])) b ∧ b < s3.heap.objs.size := fun b hb => by
    have lt := lt2 b hb
    refine ⟨⟨?_, (fp2 b hb).2⟩, by rw [h3, Heap.size_push]; exact Nat.lt_succ_of_lt lt⟩
    rw [upd_ne (by rw [← hD]; exact Nat.ne_of_lt lt)]
    exact (fp2 b hb).1
  have st3 : tn 0 s3.heap := T.keep _ _ _ st2 fun b _ o z => by
    rw [h3]
    exact Heap.get?_push_of_some _ z
  have I4 := block_start I3 ok nd fp3
  have pg := hg s3 (upd H2 D (.lst [])) s3.heap.objs.size (cellsFrom (s3.heap.objs.size + 1) scope.names (cloFrom X.env.cells scope.names [])) fp
  have pt := ht s3 (upd H2 D (.lst [])) s3.heap.objs.size (cellsFrom (s3.heap.objs.size + 1) scope.names (cloFrom X.env.cells scope.names [])) fp
  have rb := RB s3 (upd H2 D (.lst [])) s3.heap.objs.size (cellsFrom (s3.heap.objs.size + 1) scope.names (cloFrom X.env.cells scope.names [])) fp D
  show codeAny _ _ (.compStart (L3 e t0 i0 t1 i1 t2 i2 c0 c1 c2 scope pos) 0 (.ref it) (.ref D) (compEnvC scope (cellsFrom (s3.heap.objs.size + 1) scope.names (cloFrom X.env.cells scope.names [])) s3.heap.objs.size X.env)) (compPost (model X.prog X.w) X.A X.xe use Qf (.ref D) s3.heap.objs.size) { s3 with heap := pushCells (s3.heap.push { cls := .type "dict", data := .dict #[] }) scope.names }
  have nfp : ∀ b ∈ fp, (upd H2 D (.lst [])) b = none := fun b hb => (fp3 b hb).1.1
  generalize hce : compEnvC scope (cellsFrom (s3.heap.objs.size + 1) scope.names (cloFrom X.env.cells scope.names [])) s3.heap.objs.size X.env = ce at I4 pg pt rb ⊢
  have cL : ce.locals = s3.heap.objs.size := by
    subst hce
    rfl
  generalize hH3 : upd H2 D (.lst []) = H3 at I3 I4 pg pt rb w0 nfp fp3
  generalize hs4 : ({ s3 with heap := pushCells (s3.heap.push { cls := .type "dict", data := .dict #[] }) scope.names } : Shared) = s4 at I4 ⊢
  have st4 : tn 0 s4.heap := T.keep _ _ _ st3 fun b _ o z => by
    rw [← hs4]
    exact pushCells_keeps _ _ _ _ (Heap.get?_push_of_some _ z)
  have no : ∀ x s', (X.blk s3 H3 scope ce fp).xe x s' → False := fun _ _ z => z
  have stat : ∀ {σ' : L2.St} {H' : Hp} {s' : Shared}, Inv (X.blk s3 H3 scope ce fp) [] σ' H' s' → (∀ b ∈ fp, H' b = none) → ∀ b ∈ fp, FpOk (X.blk s3 H3 scope ce fp) [] H' b := fun {σ' H' s'} Iz hn b hb =>
    ⟨hn b hb, (Iz.ok.exf b hb).1, Iz.ok.exfs b hb, .inl hb, fun x c z => (Iz.ok.exf b hb).2 x c z, fun p hp => absurd (show p ∈ ([] : List (Addr × Obj)) ++ [] from hp) (by simp)⟩
  have loop : codeAny (model X.prog X.w) X.A (.compLoop (L3 e t0 i0 t1 i1 t2 i2 c0 c1 c2 scope pos) 0 (.ref it) (.ref D) ce) (compPost (model X.prog X.w) X.A X.xe use Qf (.ref D) s3.heap.objs.size) s4 := by
    refine loop_to (i := i0) (i1 := i1) (t := t0) (cs := c0) (fun _ => turn3_0) (f1 ce) (fun n s' => ∃ j H', Inv (X.blk s3 H3 scope ce fp) [] (wipe σ (own.map (·.2))) H' s' ∧ tn j s'.heap ∧ (∀ b ∈ fp, H' b = none) ∧ W j n H') ?_ m0 ⟨0, H3, I4, st4, nfp, w0⟩
    rintro n s5 ⟨j, H5, I5, st5, n5, w5⟩
    rcases turn j n H5 w5 with ⟨stop, qq⟩ | ⟨go, Ny, hNy, step⟩
    · refine thnF (T.done (X.blk s3 H3 scope ce fp) rfl rfl rfl calm j [] s5 _ H5 (fun _ _ => False) I5 (stat I5 n5) st5 stop) fun r s6 ⟨hr, I6⟩ => ?_
      subst hr
      have I7 : Inv X pins σ H5 s6 := I3.call' (ch := fp) I6.os I6.base I6.hok I6.bare fun b hb => ⟨(fp3 b hb).1.2.2.2.1, (fp3 b hb).1.2.1, (fp3 b hb).1.2.2.2.2.1, (fp3 b hb).1.2.2.2.2.2⟩
      have nC : H5 s3.heap.objs.size = none := by
        have z : H5 ce.locals = none := I6.free
        rw [cL] at z
        exact z
      obtain ⟨m, hn, _⟩ := I6.loc
      have hn : s6.heap.Ns ce.locals m := hn
      rw [cL] at hn
      exact last D s3.heap.objs.size s6 m H5 I7 qq hn (I3.fpOk (Nat.le_refl _) nC)
    · refine thnF (T.item (X.blk s3 H3 scope ce fp) rfl rfl rfl calm j [] s5 _ H5 (fun _ _ => False) I5 (stat I5 n5) st5 go) fun r s6 ⟨u, hr, h6⟩ => ?_
      subst hr
      refine thnF h6 fun _ s7 ⟨x, H7, I7, r7, y7, st7, n7⟩ => ?_
      have I7p := I7.pinned (stat I7 n7) (T.obj _ _ st7)
      refine no_err no (pg.run _ s7 _ H7 x u _ I7p r7 (step x H7 y7)) fun _ s8 ⟨σ8, H8, I8, hw8, q8⟩ => ?_
      refine no_err no (pt.run _ s8 σ8 H8 _ I8 q8) fun b s9 ⟨H9, I9, q9⟩ => ?_
      have l8 : σ8.length = σ.length := by
        rw [← wipe_length σ8 (own.map (·.2)), hw8, wipe_length]
      have back : ∀ σ' s' H', Inv (X.blk s3 H3 scope ce fp) ([] ++ pinsAt fp s7.heap) σ' H' s' → σ'.length = σ8.length → (∀ (j : Nat) v, (wipe σ8 vs1)[j]? = some (some v) → σ'[j]? = some (some v)) → Ny H' →
          ∃ m, m < n ∧ ∃ j H', Inv (X.blk s3 H3 scope ce fp) [] (wipe σ (own.map (·.2))) H' s' ∧ tn j s'.heap ∧ (∀ b ∈ fp, H' b = none) ∧ W j m H' := fun σ' s' H' I' hl hk nx => by
        obtain ⟨m', hm, w'⟩ := hNy H' nx
        have kept : ∀ b ∈ fp, ∀ o, s7.heap.get? b = some o → s'.heap.get? b = some o ∧ H' b = none := fun b hb o z =>
          let y := I'.pin (b, o) (List.mem_append_right _ (List.mem_append_right _ (mem_pinsAt hb z)))
          ⟨y.1, y.2.1⟩
        refine ⟨m', hm, j + 1, H', (I'.unpinned (pins := [])).weak (by rw [wipe_length, hl, l8]) (fun i v z => ?_), T.keep _ _ _ st7 fun b hb o z => (kept b hb o z).1, fun b hb => ?_, w'⟩
        · rw [← hw8] at z
          obtain ⟨z1, z2⟩ := wipe_some z
          exact hk i v (by rw [wipe_out fun y => z2 (sub i y)]; exact z1)
        · obtain ⟨o, z, _⟩ := T.obj _ _ st7 b hb
          exact (kept b hb o z).2
      cases b with
      | false =>
        simp only [Bool.false_eq_true, if_false] at q9 ⊢
        exact back σ8 s9 H9 I9 rfl (fun j v z => (wipe_some z).1) q9
      | true =>
        simp only [if_true] at q9 ⊢
        exact rb _ s9 σ8 H9 Ny _ _ I9 q9 back
  exact codeAny_compStart_list loop (T.self X.A 0 _ _ _ st4 loop)
/-- as a value -/
theorem pe_lc3 (calm : X.calm = true) (nd : X.N.Nodup) (hi : PI X t0 i0 wi) (ok : BlkOk X.N X.env.scope scope own) (s1 : ∀ i ∈ vs1, i ∈ own.map (·.2)) (s2 : ∀ i ∈ vs2, i ∈ vs1)
    (hg : ∀ s H C cl fp, PG (X.blk s H scope (compEnvC scope cl C X.env) fp) t0 g) (ht : ∀ s H C cl fp, PTs (X.blk s H scope (compEnvC scope cl C X.env) fp) c0 tt)
    (hi1 : ∀ s H C cl fp, PI (X.blk s H scope (compEnvC scope cl C X.env) fp) t1 i1 wi1) (hg1 : ∀ s H C cl fp, PG (X.blk s H scope (compEnvC scope cl C X.env) fp) t1 g1) (ht1 : ∀ s H C cl fp, PTs (X.blk s H scope (compEnvC scope cl C X.env) fp) c1 tt1)
    (hi2 : ∀ s H C cl fp, PI (X.blk s H scope (compEnvC scope cl C X.env) fp) t2 i2 wi2) (hg2 : ∀ s H C cl fp, PG (X.blk s H scope (compEnvC scope cl C X.env) fp) t2 g2) (ht2 : ∀ s H C cl fp, PTs (X.blk s H scope (compEnvC scope cl C X.env) fp) c2 tt2)
    (he : ∀ s H C cl fp, PE (X.blk s H scope (compEnvC scope cl C X.env) fp) e te) (f0 : ∀ x, foldedSetIterable i0 X.env x = pure x := by intro _; rfl) (f1 : ∀ env x, foldedSetIterable i1 env x = pure x := by intro _ _; rfl) (f2 : ∀ env x, foldedSetIterable i2 env x = pure x := by intro _ _; rfl) :
    PE X (L3 e t0 i0 t1 i1 t2 i2 c0 c1 c2 scope pos) (tLc3 wi g tt (fun D => tIn wi1 g1 tt1 (tIn wi2 g2 tt2 (tEl te D) vs2) vs1) (own.map (·.2))) := by
  refine ⟨fun pins s σ H Q I want => ?_⟩
  rw [eval_ListComp]
  refine lc3_core calm nd I hi ok s1 hg ht (fun s H C cl fp D => ?_) f0 f1 want fun D C s' m H' I' q hn f => ⟨m, hn, fun h'' sb => ?_⟩
  · have r2 : Runs (X.blk s H scope (compEnvC scope cl C X.env) fp) (tIn wi2 g2 tt2 (tEl te D) vs2) vs2 (nxC (X.blk s H scope (compEnvC scope cl C X.env) fp) (L3 e t0 i0 t1 i1 t2 i2 c0 c1 c2 scope pos) 2 i2 (.ref D)) :=
      runs_in (vb := []) (inner := elC (X.blk s H scope (compEnvC scope cl C X.env) fp) e (.ref D)) (fun _ _ z => z) calm (hi2 s H C cl fp) (hg2 s H C cl fp) (ht2 s H C cl fp) (fun i z => absurd z (by simp)) (runs_el (fun _ _ z => z) (he s H C cl fp))
        (fun R it Ix n s turn w => loop_el (i := i2) (t := t2) (cs := c2) (fun _ => turn3_2) Ix turn n w) fun R it s a b => start_2 a b
    exact runs_in (inner := nxC (X.blk s H scope (compEnvC scope cl C X.env) fp) (L3 e t0 i0 t1 i1 t2 i2 c0 c1 c2 scope pos) 2 i2 (.ref D)) (fun _ _ z => z) calm (hi1 s H C cl fp) (hg1 s H C cl fp) (ht1 s H C cl fp) s2 r2
      (fun R it Ix n s turn w => loop_to (i := i1) (i1 := i2) (t := t1) (cs := c1) (fun _ => turn3_1) (f2 _) Ix turn n w) fun R it s a b => start_1 a b
  · obtain ⟨x0, x1, x2, x3, x4, x5⟩ := f
    exact ⟨.ref D, H', I'.turned (t' := s'.toks) (fun b o hb z => (sb.2 b hb).trans z) x0 x1 x3 x4 x5, rfl, q⟩
end
end XC
end
section
set_option Elab.async false
set_option linter.all false
set_option maxRecDepth 100000
set_option maxHeartbeats 4100000
namespace XC
open PySem PySem.Spec PyProof.Rows L2
/-! ### the three clauses over what is walked -/
section
variable {J : It} {n : Nat} {G : Hp → Prop} {Y : Nat → Hp → V → Hp → Prop} {g : TG} {tt : TT} {vs : List Nat} {σ : L2.St} {H1 : Hp}
theorem lc3_it {B : Addr → L2.St → Hp → (Hp → Prop) → Prop} {D : Addr} {Qd : Hp → Prop} (w : Walk J n G Y) (Pv : Nat → Hp → Prop) (h0 : Pv 0 (upd H1 D (.lst []))) (hG : ∀ i H, i ≤ n → Pv i H → G H)
    (hs : ∀ i x H H', i < n → Pv i H → Y i H x H' → g x (wipe σ vs) H' fun σ1 H3 => wipe σ1 vs = wipe σ vs ∧ tt σ1 H3 fun b H4 => if b = true then B D σ1 H4 (Pv (i + 1)) else Pv (i + 1) H4) (hd : ∀ H, Pv n H → Qd H) :
    ∃ W : Nat → Nat → Hp → Prop, (∃ m, W 0 m (upd H1 D (.lst []))) ∧ ∀ j k H2, W j k H2 → (J.stop j H2 ∧ Qd H2) ∨
      (J.go j H2 ∧ ∃ Ny : Hp → Prop, (∀ H', Ny H' → ∃ m, m < k ∧ W (j + 1) m H') ∧ ∀ x H', J.yld j H2 x H' → g x (wipe σ vs) H' fun σ1 H3 => wipe σ1 vs = wipe σ vs ∧ tt σ1 H3 fun b H4 => if b = true then B D σ1 H4 Ny else Ny H4) := by
  refine ⟨fun i m H => m = n - i ∧ i ≤ n ∧ Pv i H, ⟨n, by simp, Nat.zero_le _, h0⟩, ?_⟩
  rintro i m H ⟨rfl, hi, p⟩
  have q := hG i H hi p
  by_cases lt : i < n
  · exact .inr ⟨w.goes i H lt q, Pv (i + 1), fun H' p' => ⟨n - (i + 1), by omega, rfl, lt, p'⟩, fun x H' y => hs i x H H' lt p (w.yields i H x H' lt q y)⟩
  · have e : i = n := by omega
    subst e
    exact .inl ⟨w.stops H q, hd H p⟩
theorem in_it {B : L2.St → Hp → (Hp → Prop) → Prop} {Nx : Hp → Prop} (w : Walk J n G Y) (Pv : Nat → Hp → Prop) (h0 : Pv 0 H1) (hG : ∀ i H, i ≤ n → Pv i H → G H)
    (hs : ∀ i x H H', i < n → Pv i H → Y i H x H' → g x (wipe σ vs) H' fun σ1 H3 => wipe σ1 vs = wipe σ vs ∧ tt σ1 H3 fun b H4 => if b = true then B σ1 H4 (Pv (i + 1)) else Pv (i + 1) H4) (hd : ∀ H, Pv n H → Nx H) :
    ∃ W : Nat → Nat → Hp → Prop, (∃ m, W 0 m H1) ∧ ∀ j k H2, W j k H2 → (J.stop j H2 ∧ Nx H2) ∨
      (J.go j H2 ∧ ∃ Ny : Hp → Prop, (∀ H', Ny H' → ∃ m, m < k ∧ W (j + 1) m H') ∧ ∀ x H', J.yld j H2 x H' → g x (wipe σ vs) H' fun σ1 H3 => wipe σ1 vs = wipe σ vs ∧ tt σ1 H3 fun b H4 => if b = true then B σ1 H4 Ny else Ny H4) := by
  refine ⟨fun i m H => m = n - i ∧ i ≤ n ∧ Pv i H, ⟨n, by simp, Nat.zero_le _, h0⟩, ?_⟩
  rintro i m H ⟨rfl, hi, p⟩
  have q := hG i H hi p
  by_cases lt : i < n
  · exact .inr ⟨w.goes i H lt q, Pv (i + 1), fun H' p' => ⟨n - (i + 1), by omega, rfl, lt, p'⟩, fun x H' y => hs i x H H' lt p (w.yields i H x H' lt q y)⟩
  · have e : i = n := by omega
    subst e
    exact .inl ⟨w.stops H q, hd H p⟩
end
end XC
end
section
set_option Elab.async false
set_option linter.all false
set_option maxRecDepth 100000
set_option maxHeartbeats 4100000
namespace LA
open PySem L2 XS XT LM XK LamX
abbrev sWrit : Stmt := top 25
abbrev sLineI : Stmt := top 26
theorem one_take {r : List Str} {j : Nat} : one (r, j) ++ r = one (r, j + 1) := by
  rw [← one_add, one_one]
theorem wr_le {bs : List (Bk Str)} {i : Nat} : (wr (bs.take i)).length ≤ (wr bs).length := by
  have e : wr bs = wr (bs.take i) ++ wr (bs.drop i) := by rw [← wr_app, List.take_append_drop]
  rw [e, List.length_append]
  omega
section
variable {P : Program} {w : World} {K : PySem.W.Frag} {mg : Str → Option Value} {base : Heap} {t1 t2 t3 : Tok}
def spWrit : Sp := fun vs H Q _ => ∃ (t : Addr) (us : List V) (cs : List (Bk Str)), vs = [.ref t] ∧ H t = some (.tup us) ∧ Paired (fun b v => BkT H b v) cs us ∧ (∀ b ∈ cs, Vb b) ∧ (wr cs).length ≤ 1000 ∧
  ∀ (p : Addr) (H' : Hp), H' p = some (.lst ((wr cs).map V.str)) → H p = none → Same H H' → Q (.ref p) H'
theorem scWr : FnScope ["blocks", "lines", "times", "_", "line"] ["blocks"] (defScope sWrit) := ⟨rfl, rfl, rfl, by decide +kernel, rfl, by decide +kernel, by decide +kernel⟩
theorem ok_writ {f : Addr} {fd : FuncData} (F : Fun K "written_out" "written_out" sWrit f fd) (mR : mg "range" = none) : FnOk P w K mg base CX0 1 f fd ["blocks"] spWrit := by
  refine F.ok scWr (fun vs H Q E h => ?_) (fun cdv A outer s H vs Q E hr h => ?_)
  · obtain ⟨t, us, bs, rfl, _⟩ := h
    rfl
  · obtain ⟨t, us, cs, rfl, ht, pr, vb, few, q⟩ := h
    refine ⟨_, pss_one (by exact (ps_ret (XC.pe_lc3 (own := [("lines", 1), ("times", 2), ("_", 3), ("line", 4)]) (vs1 := [3, 4]) (vs2 := [4]) (g := gTup K 2 (gCons (gName 1) (gCons (gName 2) gNil))) (g1 := gName 3) (g2 := gName 4) (tt := tYes) (tt1 := tYes) (tt2 := tYes) (te := tVar 4) (wi1 := iRng1 (tCons (tVar 2) tNil)) (wi2 := iTup K (tVar 1)) rfl scWr.nd (pi_tup (pv 0))
        (blkOk_by (N := ["blocks", "lines", "times", "_", "line"]) (sc := defScope sWrit) (by decide +kernel)) (by decide) (by decide)
        (fun _ _ _ _ _ => by exact (pg_tup rfl (pgs_cons (by exact (pg_name (i := 1) scWr.nd rfl (Or.inl rfl))) (pgs_cons (by exact (pg_name (i := 2) scWr.nd rfl (Or.inl rfl))) pgs_nil))))
        (fun _ _ _ _ _ => by exact pts_nil)
        (fun _ _ _ _ _ => by exact (pi_range1 rfl mR (pa_cons (pv 2) pa_nil))) (fun _ _ _ _ _ => by exact (pg_name (i := 3) scWr.nd rfl (Or.inl rfl))) (fun _ _ _ _ _ => by exact pts_nil)
        (fun _ _ _ _ _ => by exact (pi_tup (pv 1))) (fun _ _ _ _ _ => by exact (pg_name (i := 4) scWr.nd rfl (Or.inl rfl))) (fun _ _ _ _ _ => by exact pts_nil)
        (fun _ _ _ _ _ => by exact (pv 4))))), ?_⟩
    refine ⟨_, rfl, t, rfl, ⟨_, SqT.of ht⟩, fun D nD => ?_⟩
    refine XC.lc3_it (B := fun D => XC.tIn (iRng1 (tCons (tVar 2) tNil)) (gName 3) tYes (XC.tIn (iTup K (tVar 1)) (gName 4) tYes (XC.tEl (tVar 4) D) [4]) [3, 4]) (walk_tup (K := K) (a := t) (xs := us)) (fun i X => X D = some (.lst ((wr (cs.take i)).map V.str)) ∧ Same H X) ⟨upd_same, same_upd nD⟩ (fun i X _ p => SqT.of (p.2 _ _ ht)) (fun i x X X' hi p yl => ?_) (fun X p => ?_)
    · obtain ⟨pD, pS⟩ := p
      obtain ⟨rfl, hx⟩ := yl
      obtain ⟨b, hb, tb, ab, rfl, h1, h2⟩ := pair_at pr hx
      have v := vb b (List.mem_of_getElem? hb)
      have wt := wr_take hb
      have lw : (wr (cs.take i)).length + b.1.length * b.2 ≤ 1000 := by
        have z := wr_le (bs := cs) (i := i + 1)
        rw [wt, List.length_append, len_one] at z
        omega
      have l1 := v.l1
      have b2 : b.2 ≤ b.1.length * b.2 := Nat.le_mul_of_pos_left _ l1
      refine ⟨tb, _, rfl, SqT.of (pS _ _ h1), rfl, _, _, rfl, _, _, rfl, rfl, rfl, ?_⟩
      dsimp only [tYes]
      rw [if_pos rfl]
      refine ⟨_, rfl, (b.2 : Int), rfl, by omega, by omega, ?_⟩
      refine XC.in_it (B := XC.tIn (iTup K (tVar 1)) (gName 4) tYes (XC.tEl (tVar 4) D) [4]) (walk_range (lo := 0) (n := (b.2 : Int).toNat)) (fun j X => X D = some (.lst ((wr (cs.take i) ++ one (b.1, j)).map V.str)) ∧ Same H X) ⟨by rw [show one (b.1, 0) = [] from rfl, List.append_nil]; exact pD, pS⟩ (fun _ _ _ _ => True.intro) (fun j x X X' hj p yl => ?_) (fun X p => ?_)
      · obtain ⟨pD, pS⟩ := p
        obtain ⟨rfl, rfl⟩ := yl
        refine ⟨rfl, ?_⟩
        dsimp only [tYes]
        rw [if_pos rfl]
        refine ⟨_, rfl, ab, rfl, ⟨_, SqT.of (pS _ _ h2)⟩, ?_⟩
        refine XC.in_it (B := XC.tEl (tVar 4) D) (walk_tup (K := K) (a := ab) (xs := b.1.map V.str)) (fun k X => X D = some (.lst ((wr (cs.take i) ++ one (b.1, j) ++ b.1.take k).map V.str)) ∧ Same H X) ⟨by rw [List.take_zero, List.append_nil]; exact pD, pS⟩ (fun k X _ p => SqT.of (p.2 _ _ h2)) (fun k x X X' hk p yl => ?_) (fun X p => ?_)
        · obtain ⟨pD, pS⟩ := p
          obtain ⟨rfl, hx⟩ := yl
          rw [List.getElem?_map] at hx
          obtain ⟨z, hz, rfl⟩ := Option.map_eq_some_iff.mp hx
          refine ⟨rfl, ?_⟩
          dsimp only [tYes]
          rw [if_pos rfl]
          refine ⟨_, rfl, _, pD, ?_, ?_, ?_⟩
          · rw [List.length_map, List.length_append, List.length_append, len_one, List.length_take]
            have hj2 : j < b.2 := by omega
            have m1 : b.1.length * j + b.1.length ≤ b.1.length * b.2 := by
              rw [← Nat.mul_succ]
              exact Nat.mul_le_mul_left _ hj2
            show (wr (cs.take i)).length + b.1.length * j + min k b.1.length < sizeLine
            exact Nat.lt_of_le_of_lt (show _ ≤ 1000 by omega) (by decide)
          · rw [upd_same, List.take_succ, hz]
            simp only [List.map_append, List.append_assoc]
            rfl
          · intro c o e
            rw [upd_ne (ne_of_none e nD)]
            exact pS _ _ e
        · obtain ⟨pD, pS⟩ := p
          rw [List.length_map, List.take_length, List.append_assoc, one_take] at pD
          exact ⟨pD, pS⟩
      · obtain ⟨pD, pS⟩ := p
        rw [Int.toNat_natCast] at pD
        refine ⟨?_, pS⟩
        rw [wt]
        exact pD
    · obtain ⟨pD, pS⟩ := p
      rw [← pair_len pr, List.take_length] at pD
      exact q D X pD nD pS
/-- line_at_index -/
def spLineI : Sp := fun vs H Q _ => ∃ (t : Addr) (us : List V) (bs : List (Bk Str)) (n : Nat) (z : Str), vs = [.ref t, .int n] ∧ H t = some (.tup us) ∧ Paired (fun b v => BkT H b v) bs us ∧ (∀ b ∈ bs, Vb b) ∧ bs.length ≤ 1000 ∧ (wr bs)[n]? = some z ∧ ∀ H', Same H H' → Q (.str z) H'
theorem scLn : FnScope ["blocks", "index"] ["blocks", "index"] (defScope sLineI) := ⟨rfl, rfl, rfl, by decide +kernel, rfl, by decide +kernel, by decide +kernel⟩
theorem ok_lineI {f f1 f2 : Addr} {fd fd1 fd2 : FuncData} (F : Fun K "line_at_index" "line_at_index" sLineI f fd) (CU : CallOf P w K mg base 2 "cut" ["blocks", "low", "high"] spCut f1 fd1) (WR : CallOf P w K mg base 1 "written_out" ["blocks"] spWrit f2 fd2) : FnOk P w K mg base CX0 3 f fd ["blocks", "index"] spLineI := by
  refine F.ok scLn (fun vs H Q E h => ?_) (fun cdv A outer s H vs Q E hr h => ?_)
  · obtain ⟨t, us, bs, n, z, rfl, _⟩ := h
    rfl
  · obtain ⟨t, us, bs, n, z, rfl, ht, pr, vb, lb, hz, q⟩ := h
    have hr1 : Room 1 _ := hr.mono (by decide)
    refine ⟨_, pss_one (by exact (ps_ret (pe_ix ix_list (pe_call WR.ok hr1 rfl WR.m WR.k WR.b .nil pass0 (pa_cons (pe_call CU.ok hr rfl CU.m CU.k CU.b .nil pass0 (pa_cons (pv 0) (pa_cons (pv 1) (pa_cons (pe_op op_add (pv 1) pe_int) pa_nil)))) pa_nil)) pe_int (fun _ _ => rfl)))), ?_⟩
    have hn : n < (wr bs).length := (List.getElem?_eq_some_iff.mp hz).1
    have e1 : ((wr bs).take (n + 1)).drop n = [z] := by
      rw [List.drop_take, show n + 1 - n = 1 by omega, List.drop_eq_getElem_cons hn, List.take_succ_cons, List.take_zero]
      rw [List.getElem?_eq_getElem hn] at hz
      rw [Option.some.inj hz]
    refine ⟨_, rfl, _, rfl, _, rfl, _, _, rfl, rfl, ?_⟩
    refine ⟨t, us, bs, n, n + 1, rfl, ht, pr, vb, lb, by omega, fun p ws cs H1 hp pp pw pv0 s1 => ?_⟩
    rw [e1] at pw
    refine ⟨p, ws, cs, rfl, hp, pp, pv0, by rw [pw]; show 1 ≤ 1000; decide, fun p2 H2 hp2 n2 s2 => ?_⟩
    rw [pw] at hp2
    exact ⟨p2, _, 0, .str z, rfl, rfl, SqL.of hp2, rfl, q H2 (s1.trans s2)⟩
end
end LA
end
section
set_option Elab.async false
set_option linter.all false
set_option maxRecDepth 100000
set_option maxHeartbeats 4100000
namespace XV
open PySem PySem.Spec PyProof.Rows L2 StX
/-! ### def f(a, *v, k=d): called by position alone, and by k alone -/
/-- a def's promise where it is called with keywords ks -/
def FnV (P : Program) (w : World) (K : PySem.W.Frag) (mg : Str → Option Value) (base : Heap) (CX : CXT) (k : Nat) (f : Addr) (ks : List Str) (sp : List V → List V → Hp → VK → XK → Prop) : Prop :=
  ∀ (A : Around) (outer : List Env) (s : Shared) (H : Hp) (us ws : List Value) (vs zs : List V) (Q : VK) (E : XK), Room k A → Env0 P w K mg base A outer s H → Vals vs us → Vals zs ws → zs.length = ks.length → sp vs zs H Q E →
    codeAny (model P w) A (.call (.ref f) ⟨us, ks.zip ws⟩) (CR CX outer P w H s Q E) s
section
variable {CX : CXT} {P : Program} {w : World} {K : PySem.W.Frag} {mg : Str → Option Value} {base : Heap} {k : Nat} {f : Addr} {name qual : Str} {params : Arguments} {body : List Stmt} {scope : Scope} {dV kV doc pm cdv ct oc : Value} {an od : Option Addr}
  {osl : Array (Option Value)} {N : List Str} {p0 pk pv : Str} {sp : Sp}
/-- what binding does once the names are known: a new tuple of what is left over -/
theorem bnd_tail {A : Around} {outer : List Env} {s : Shared} {H : Hp} {E : XK} {A' : Around} {Ex : Value → Shared → Prop} {Q' : List (Str × Value) → Shared → Prop} {u0 d : Value} {v0 vd : V} {us : List Value} {rest : List V} (e0 : Env0 P w K mg base A outer s H) (hCX : CXUp CX) (r0 : RelV v0 u0) (rd : RelV vd d) (r : Vals rest us) (hz : rest.length ≤ sizeLine)
    (h : ∀ (s2 : Shared) (H2 : Hp) (vs : List V) (us : List Value), Env0 P w K mg base A outer s2 H2 → Un (frs outer) [] H H2 s.heap s2.heap → s2.os = s.os → (∀ e s', CX outer H2 s2 E e s' → CX outer H s E e s') → Vals vs us → vs.length = [p0, pk, pv].length → (∃ p, H p = Option.none ∧ vs = [v0, vd, V.ref p] ∧ H2 = upd H p (.tup rest)) → Q' ([p0, pk, pv].zip us) s2) :
    wpAny (model P w) A' (newTuple us >>= fun t => pure [(p0, u0), (pk, d), (pv, t)]) Q' Ex s := by
  have hn : H s.heap.objs.size = Option.none := e0.hok.fresh (Nat.le_refl _)
  have hl2 : us.length ≤ sizeLine := by rw [← r.length]; exact hz
  refine wpAny_bind (wpAny_newTuple (wpAny_pure ?_) hl2)
  have new : ObjOk P w (upd H s.heap.objs.size (.tup rest)) (s.heap.push ({ cls := .type "tuple", data := .seq us.toArray } : Obj)) s.heap.objs.size (.tup rest) := ⟨hz, us, r, ⟨_, Heap.get?_push_size _ rfl, rfl, _, rfl⟩⟩
  have un := un_laid (fs := frs outer) (s := s) (o := ({ cls := .type "tuple", data := .seq us.toArray } : Obj)) (u := .tup rest) hn
  exact h _ _ [v0, vd, V.ref s.heap.objs.size] [u0, d, Value.ref s.heap.objs.size] (env0_laid e0 new) un rfl (fun e s' => hCX outer s H _ _ E e s' un (fun b o q => Heap.get?_push_of_some _ q) rfl) (.cons r0 (.cons rd (.cons rfl .nil))) rfl ⟨_, hn, rfl, rfl⟩
/-- by position: k's default stands in the dict at D -/
theorem fn_vpos {D : Addr} {d : Value} {vd : V} {n : Nat} (lk : K.lookup f = some ⟨oc, od, .func (PySem.W.fnOf name qual params body scope dV kV doc pm an cdv ct), osl⟩) (hcd : PySem.W.codeIn K cdv qual = true) (S : FnScope N [p0, pk, pv] scope) (hCX : CXUp CX)
    (hD : PySem.W.nsIn K D pk = some (some d)) (rd : RelV vd d) (hz : n ≤ sizeLine)
    (hb : ∀ (u0 : Value) (us : List Value), us.length ≤ n → ∃ (β γ : Type) (k1 : Option Value → Sem β) (k2 : β → Sem γ) (k3 : γ → Sem (List (Str × Value))) (a : β), bindArgs (PySem.W.fnOf name qual params body scope dV kV doc pm an cdv ct) ⟨u0 :: us, []⟩ = ((nsGet D pk >>= k1) >>= k2) >>= k3 ∧ k1 (some d) = pure a ∧ (k2 a >>= k3) = (newTuple us >>= fun t => pure [(p0, u0), (pk, d), (pv, t)]))
    (hbody : ∀ (A : Around) (outer : List Env) (s : Shared) (H : Hp) (vs : List V) (Q : VK) (E : XK), Room k (A.deeper (envOfC qual scope s.heap.objs.size f cdv)) → sp vs H Q E →
      ∃ t, PSs (cxOf CX P w K mg base N qual scope f cdv A outer s H E) body t ∧ t { nx := fun _ H' => Q .non H', rt := Q } (start N vs) H) :
    FnV P w K mg base CX (k + 1) f [] (fun vs _ H Q E => ∃ v0 rest, vs = v0 :: rest ∧ rest.length ≤ n ∧ ∀ p, H p = Option.none → sp [v0, vd, V.ref p] (upd H p (.tup rest)) Q E) := by
  intro A outer s H us ws vs zs Q E hr e0 r rz lz hsp
  obtain ⟨v0, rest, rfl, hl, hq⟩ := hsp
  cases r with
  | @cons _ u0 _ us r0 r =>
    have KX : K.In s.heap := e0.mod.kin.keeps fun b o e => (e0.bs b o e).1
    obtain ⟨β, γ, k1, k2, k3, a, e1, e2, e3⟩ := hb u0 us (by rw [← r.length]; exact hl)
    refine run_bnd lk hcd S hr e0 (G := fun xs H2 => ∃ p, H p = Option.none ∧ xs = [v0, vd, V.ref p] ∧ H2 = upd H p (.tup rest)) (fun A' Ex Q' h => ?_) fun s2 H2 xs ⟨p, hp, ex, eH⟩ hr' => ?_
    · have e0' : (([] : List Str).zip ws) = [] := rfl
      rw [e0', e1, bind_assoc]
      have l1 : PySem.W.Looks (model P w) s.heap (nsGet D pk >>= k1) a := (PySem.W.looks_nsIn KX hD).andThen (PySem.W.Looks.of_pure e2)
      refine wpAny_bind (l1.here ?_)
      rw [e3]
      exact bnd_tail e0 hCX r0 rd r (Nat.le_trans hl hz) h
    · subst ex eH
      exact hbody A outer s2 _ _ Q E hr' (hq p hp)
/-- by k alone -/
theorem fn_vkey (lk : K.lookup f = some ⟨oc, od, .func (PySem.W.fnOf name qual params body scope dV kV doc pm an cdv ct), osl⟩) (hcd : PySem.W.codeIn K cdv qual = true) (S : FnScope N [p0, pk, pv] scope) (hCX : CXUp CX)
    (hb : ∀ (u0 d : Value), bindArgs (PySem.W.fnOf name qual params body scope dV kV doc pm an cdv ct) ⟨[u0], [(pk, d)]⟩ = (newTuple [] >>= fun t => pure [(p0, u0), (pk, d), (pv, t)]))
    (hbody : ∀ (A : Around) (outer : List Env) (s : Shared) (H : Hp) (vs : List V) (Q : VK) (E : XK), Room k (A.deeper (envOfC qual scope s.heap.objs.size f cdv)) → sp vs H Q E →
      ∃ t, PSs (cxOf CX P w K mg base N qual scope f cdv A outer s H E) body t ∧ t { nx := fun _ H' => Q .non H', rt := Q } (start N vs) H) :
    FnV P w K mg base CX (k + 1) f [pk] (fun vs zs H Q E => ∃ v0 y, vs = [v0] ∧ zs = [y] ∧ ∀ p, H p = Option.none → sp [v0, y, V.ref p] (upd H p (.tup [])) Q E) := by
  intro A outer s H us ws vs zs Q E hr e0 r rz lz hsp
  obtain ⟨v0, y, rfl, rfl, hq⟩ := hsp
  obtain ⟨u0, rfl, r0⟩ := vals1 r
  obtain ⟨d, rfl, rd⟩ := vals1 rz
  refine run_bnd lk hcd S hr e0 (G := fun xs H2 => ∃ p, H p = Option.none ∧ xs = [v0, y, V.ref p] ∧ H2 = upd H p (.tup [])) (fun A' Ex Q' h => ?_) fun s2 H2 xs ⟨p, hp, ex, eH⟩ hr' => ?_
  · have e1 : ([pk].zip [d]) = [(pk, d)] := rfl
    rw [e1, hb]
    exact bnd_tail e0 hCX r0 rd .nil (Nat.zero_le _) h
  · subst ex eH
    exact hbody A outer s2 _ _ Q E hr' (hq p hp)
end
section
variable {X : Cx} {CX : CXT} {k : Nat} {f C : Addr} {ks : List Str} {sp : List V → List V → Hp → VK → XK → Prop} {E : XK} {x : Str} {p pos : Pos} {e : Expr} {es : List Expr} {kws : List Keyword} {t tk : TA}
theorem run_makeV {pins : List (Addr × Obj)} {σ : L2.St} {H : Hp} {s : Shared} {Q : VK} {us ws : List Value} {vs zs : List V} (M : Mk X.K C f) (F : FnV X.prog X.w X.K X.mg X.base CX k f ks sp) (hr : Room (k + 1) X.A) (hx : Passes CX X E)
    (I : Inv X pins σ H s) (r : Vals vs us) (rz : Vals zs ws) (l2 : zs.length = ks.length)
    (h : ∀ x dx, H x = none → H dx = none → dx ≠ x → sp (.ref x :: vs) zs (upd (upd H dx (.own x)) x (.ins C dx [])) (fun v H2 => v = .non ∧ Q (.ref x) H2) E) :
    wpAny (model X.prog X.w) X.A (call (.ref C) us (ks.zip ws)) (EP X pins σ Q) X.xe s := by
  have hq := h (s.heap.objs.size + 1) s.heap.objs.size (I.hok.fresh (Nat.le_succ _)) (I.hok.fresh (Nat.le_refl _)) (Nat.ne_of_lt (Nat.lt_succ_self _))
  have I2 := Inv.made (C := C) I
  have r1 : Vals (V.ref (s.heap.objs.size + 1) :: vs) (Value.ref (s.heap.objs.size + 1) :: us) := .cons rfl r
  refine wpAny_call (make_map (f := f) I.kIn M.makes M.init (beq_iff_eq.mp M.fn) (codeAny_mono (F _ X.stack _ _ (Value.ref (s.heap.objs.size + 1) :: us) ws _ _ _ E (hr.make C us (ks.zip ws)) (I2.env0.make C us (ks.zip ws)) r1 rz l2 hq) fun r s' hq' => ?_))
  cases r with
  | error e => exact hx pins σ _ _ e s' I2 hq'
  | ok fl =>
    cases fl with
    | ret u =>
      obtain ⟨v, H', I3, rv, ev, q3⟩ := I2.after hq'
      subst ev
      exact ⟨rv, ⟨V.ref (s.heap.objs.size + 1), H', I3, rfl, q3⟩⟩
    | next => exact False.elim hq'
    | brk => exact False.elim hq'
    | cont => exact False.elim hq'
/-- what C(..) asks -/
def tMakeV (C : Addr) (m : Nat) (sp : List V → List V → Hp → VK → XK → Prop) (E : XK) (t tk : TA) : TE := fun σ H Q => t σ H fun vs H1 => tk σ H1 fun zs H2 => zs.length = m ∧ ∀ x dx, H2 x = none → H2 dx = none → dx ≠ x → sp (.ref x :: vs) zs (upd (upd H2 dx (.own x)) x (.ins C dx [])) (fun v H3 => v = .non ∧ Q (.ref x) H3) E
/-- C(e, ..) -/
theorem pe_makeV (M : Mk X.K C f) (F : FnV X.prog X.w X.K X.mg X.base CX k f [] sp) (hr : Room (k + 1) X.A) (hg : Gl X x) (hm : X.mg x = some (.ref C)) (hx : Passes CX X E) (ha : PA X (e :: es) t) (hdb : (x == ("__debug__" : Str)) = false := by decide)
    (he : starEach (e :: es) X.env = (false, eval e X.env) :: starEach es X.env := by rfl) (hpl : (backTo pos (starEach es X.env)).any (·.1) = false := by rfl) : PE X (.Call (.Name x p) (e :: es) [] pos) (tMakeV C 0 sp E t tNil) := by
  refine ⟨fun pins s σ H Q I h => ?_⟩
  refine wpAny_Call_Name_kw (ld_glob I hg hm ?_ hdb)
  refine PySem.W.callWith_K (h₀ := X.base) I.ok.mod.kin M.kp (thn (ha.run pos pins s σ H _ I h) fun us s1 ⟨vs, H1, I1, r, q⟩ => ⟨I1.kIn, ?_⟩) he hpl
  exact run_makeV (ws := []) (zs := []) M F hr hx I1 r .nil rfl q.2
/-- C(k = v, ..) -/
theorem pe_makeVK (M : Mk X.K C f) (F : FnV X.prog X.w X.K X.mg X.base CX k f ks sp) (hr : Room (k + 1) X.A) (hg : Gl X x) (hm : X.mg x = some (.ref C)) (hx : Passes CX X E) (hkw : PK X kws tk)
    (hall : (backToKw pos (keywordEach kws X.env)).all (·.1.isSome) = true := by rfl) (hks : (backToKw pos (keywordEach kws X.env)).filterMap (·.1) = ks := by rfl) (hdb : (x == ("__debug__" : Str)) = false := by decide)
    (hpl : ((backTo pos (starEach [] X.env)).any (·.1) || (backToKw pos (keywordEach kws X.env)).any (·.1.isNone)) = false := by rfl) : PE X (.Call (.Name x p) [] kws pos) (tMakeV C ks.length sp E tNil tk) := by
  refine ⟨fun pins s σ H Q I h => ?_⟩
  refine wpAny_Call_Name_kw (ld_glob I hg hm ?_ hdb)
  refine PySem.W.callWith_KW0 (h₀ := X.base) I.ok.mod.kin M.kp hall ?_ hpl
  refine thn (hkw.run pos pins s σ H _ I h) fun ws s2 ⟨zs, H2, I2, rz, l2, q2⟩ => ⟨I2.kIn, ?_⟩
  rw [hks]
  exact run_makeV (us := []) (vs := []) M F hr hx I2 .nil rz l2 q2
end
end XV
end
section
set_option Elab.async false
set_option linter.all false
set_option maxRecDepth 100000
set_option maxHeartbeats 4100000
namespace XO
open PySem PySem.Spec PyProof.Rows L2
/-! ### == and != by an own __eq__ that gives either truth -/
section
variable {X : Cx} {CX : CXT} {n : Nat} {C f : Addr} {fd : FuncData} {ps : List Str} {sp : Sp} {E : XK}
/-- the own __eq__ is called, from within -/
theorem eq_runs {A : Around} {pins : List (Addr × Obj)} {s : Shared} {σ : L2.St} {H : Hp} {a : Addr} {y : V} {v : Value} {q : Bool → Hp → Prop} {R : Value → Shared → Prop} (F : FnOk X.prog X.w X.K X.mg X.base CX n f fd ps sp) (hb : Binds X.K fd ps []) (hx : Passes CX X E)
    (room : Room n A) (fr : A.frames = X.A.frames) (I : Inv X pins σ H s) (ry : RelV y v) (want : sp [.ref a, y] H (fun z H' => ∃ b, z = .bl b ∧ q b H') E) (fin : ∀ b s' H', Inv X pins σ H' s' → q b H' → R (.bool b) s') :
    wpAny (model X.prog X.w) A (call (.ref f) [.ref a, v]) R X.xe s := by
  have e0 : Env0 X.prog X.w X.K X.mg X.base A X.stack s H := by
    have e := I.env0
    exact ⟨by rw [fr]; exact e.frames, e.mod, e.bs, e.bsz, e.funs, e.frf, e.hok, e.bare⟩
  have hl := F.len _ _ _ _ want
  have r2 : Vals [V.ref a, y] [Value.ref a, v] := .cons rfl (.cons ry .nil)
  refine wpAny_call (codeAny_mono (F.run A X.stack s H ⟨[.ref a, v], []⟩ [.ref a, v] [.ref a, y] _ E room e0 (by
    have := hb s [.ref a, v] I.kIn (by simpa using hl)
    simpa using this) r2 want) fun r s' res => ?_)
  cases r with
  | error e => exact hx pins σ H s e s' I res
  | ok fl =>
    cases fl with
    | ret w =>
      obtain ⟨z, H', I', rz, b, rfl, ez⟩ := I.after res
      obtain rfl : w = Value.bool b := rz
      exact fin b s' H' I' ez
    | next => exact False.elim res
    | brk => exact False.elim res
    | cont => exact False.elim res
/-- the reading of x == y and of x != y, x an instance of the class at C -/
def rOwnE (K : PySem.W.Frag) (C : Addr) (sp : Sp) (E : XK) (neg : Bool) : R2 := fun x y H Q => ∃ a dx fs t, x = .ref a ∧ H a = some (.ins C dx fs) ∧ TyX K H y t ∧ PySem.W.notFirst K C t = true ∧ sp [.ref a, y] H (fun z H' => ∃ b, z = .bl b ∧ Q (.bl (b != neg)) H') E
theorem op_own (F : FnOk X.prog X.w X.K X.mg X.base CX n f fd ps sp) (hs : PySem.W.findIn X.K (.ref C) "__eq__" = some (some (.ref f))) (hf : PySem.W.isFn X.K (.ref f) = true) (hb : Binds X.K fd ps []) (hx : Passes CX X E) (room : Room n X.A) :
    OpR X (compareOp .Eq) (rOwnE X.K C sp E false) := by
  intro pins s σ H x y v u Q I rx ry want
  obtain ⟨a, dx, fs, t, rfl, ha, ty, nf, rd⟩ := want
  cases rx
  obtain ⟨mA, J, _⟩ := ins_get I.hok ha
  obtain ⟨od, J, _⟩ := J.look
  obtain ⟨m, hF⟩ := I.fr
  obtain ⟨Pz, Z, pz, _⟩ := kit_of I ry ty
  show wpAny (model X.prog X.w) X.A (richCompare .Eq (.ref a) u) (EP X pins σ Q) X.xe s
  refine PySem.W.cmp_K (op := .Eq) (tb := t) room.units0 hF I.ok.mod.kin J (Z.ty _ _ I.kIn pz) nf hs hf ?_
  refine eq_runs F hb hx room rfl I ry rd fun b s' H' I' q => ?_
  refine ⟨.bl b, H', I', rfl, ?_⟩
  have e : (b != false) = b := by cases b <;> rfl
  rw [← e]
  exact q
theorem op_ownNe (F : FnOk X.prog X.w X.K X.mg X.base CX n f fd ps sp) (hs : PySem.W.findIn X.K (.ref C) "__eq__" = some (some (.ref f))) (hf : PySem.W.isFn X.K (.ref f) = true) (hb : Binds X.K fd ps []) (hx : Passes CX X E) (room : Room (n + 1) X.A)
    (ne : PySem.W.findIn X.K (.ref C) "__ne__" = some (some (.builtin "object.__ne__"))) (ob : PySem.W.mroIn X.K C (.type "object") = some true) : OpR X (compareOp .NotEq) (rOwnE X.K C sp E true) := by
  intro pins s σ H x y v u Q I rx ry want
  obtain ⟨a, dx, fs, t, rfl, ha, ty, nf, rd⟩ := want
  cases rx
  obtain ⟨mA, J, _⟩ := ins_get I.hok ha
  obtain ⟨od, J, _⟩ := J.look
  obtain ⟨Pz, Z, pz, _⟩ := kit_of I ry ty
  have kI := I.kIn
  have L0 : PySem.W.Looks (model X.prog X.w) s.heap (typeOf (.ref a)) (.ref C) := J.type
  have Lb := Z.ty (model X.prog X.w) _ kI pz
  have sub : PySem.W.Looks (model X.prog X.w) s.heap (isInstance (.ref a) (.type "object")) true := L0.andThen (PySem.W.looks_mroIn kI ob)
  have slot : wpAny (model X.prog X.w) X.A (call (.builtin "object.__ne__") [.ref a, u]) (fun z s' => ∃ b, z = Value.bool b ∧ ∃ H', Inv X pins σ H' s' ∧ Q (.bl b) H') X.xe s := by
    refine wpAny_call (codeAny_call_builtin PySem.F.cmp_object.ne.plain PySem.F.cmpEntry_ne (PySem.W.check_slot PySem.F.cmpKind_ne PySem.F.cmpSplit_ne sub (PySem.F.cmpArgs_ne _ _) ?_))
    have own : wpAny (model X.prog X.w) X.A.in1 (callSpecialIfBound? (.ref a) (Str.ofString "__eq__") [u]) (fun z s' => ∃ b, z = some (Value.bool b) ∧ ∃ H', Inv X pins σ H' s' ∧ Q (.bl (b != true)) H') X.xe s := by
      refine PySem.W.ifBound_K kI J hs hf (eq_runs F hb hx room.in1 rfl I ry rd fun b s' H' I' q => ⟨b, rfl, H', I', q⟩)
    unfold Builtin.«object.__ne__»
    refine wpAny_bind (wpAny_of_eq (a := ((Value.ref a : Value), [u])) (by first | rfl | (simp only [slotArgs]; rfl)) ?_)
    refine wpAny_bind (wpAny_cRoomFor room.in1.units0 ?_)
    refine wpAny_bind (wpAny_mono own (fun z s' hz => ?_) fun _ _ e => e)
    obtain ⟨b, rfl, H', I', q⟩ := hz
    refine wpAny_bind (wpAny_truthy_bool ?_)
    refine wpAny_pure ?_
    refine ⟨!b, rfl, H', I', ?_⟩
    have e : (b != true) = !b := by cases b <;> rfl
    rw [← e]
    exact q
  have one : wpAny (model X.prog X.w) X.A (tryCompare (.ref a) "__ne__" u) (fun z s' => ∃ b, z = some (Value.bool b) ∧ ∃ H', Inv X pins σ H' s' ∧ Q (.bl b) H') X.xe s := by
    unfold tryCompare
    have got : wpAny (model X.prog X.w) X.A (callSpecialIfBound? (.ref a) "__ne__" [u]) (fun z s' => ∃ b, z = some (Value.bool b) ∧ ∃ H', Inv X pins σ H' s' ∧ Q (.bl b) H') X.xe s := by
      simp only [callSpecialIfBound?, bindSpecialIfBound?]
      refine wpAny_holding (wpAny_bind (wpAny_bind (wpAny_bind (L0.here ((PySem.W.looks_findIn kI ne).here ?_)))))
      refine wpAny_bind (wpAny_askSetting (wpAny_ite ?_))
      have fin : wpAny (model X.prog X.w) X.A (call (.builtin "object.__ne__") ([.ref a] ++ [u]) >>= fun v => pure (some v)) (fun z s' => ∃ b, z = some (Value.bool b) ∧ ∃ H', Inv X pins σ H' s' ∧ Q (.bl b) H') X.xe s :=
        wpAny_bind (wpAny_mono slot (fun z s' hz => by
          obtain ⟨b, rfl, k⟩ := hz
          exact wpAny_pure ⟨b, rfl, k⟩) fun _ _ e => e)
      split
      · rw [PySem.F.cmp_object.ne.bind]
        exact wpAny_bind (wpAny_pure (wpAny_pure (by exact fin)))
      · rw [PySem.F.cmp_object.ne.bind]
        exact wpAny_tryCatch (wpAny_bind (wpAny_pure (wpAny_pure (by exact fin))))
    refine wpAny_bind (wpAny_mono got (fun z s' hz => ?_) fun _ _ e => e)
    obtain ⟨b, rfl, k⟩ := hz
    exact wpAny_pure ⟨b, rfl, k⟩
  show wpAny (model X.prog X.w) X.A (richCompare .NotEq (.ref a) u) (EP X pins σ Q) X.xe s
  unfold richCompare
  simp only [oneThing_ref]
  refine wpAny_holding (wpAny_bind (wpAny_cRoomFor room.units0 ?_))
  refine wpAny_bind (L0.here (wpAny_bind (Lb.here ?_)))
  have last : wpAny (model X.prog X.w) X.A (tryCompare (.ref a) "__ne__" u) (fun r s' => ∃ v, r = some v ∧ EP X pins σ Q v s') X.xe s := wpAny_mono one (fun z s' hz => by
    obtain ⟨b, rfl, H', I', q⟩ := hz
    exact ⟨_, rfl, .bl b, H', I', rfl, q⟩) fun _ _ e => e
  split
  · rename_i q
    have e : PySem.W.subIn X.K t (.ref C) = some false := by
      rcases Bool.or_eq_true_iff.mp nf with e | e
      · rw [beq_iff_eq.mp e] at q
        simp at q
      · exact beq_iff_eq.mp e
    refine wpAny_bind ((PySem.W.looks_subIn kI e).here ?_)
    simp only [Bool.false_eq_true, if_false]
    refine wpAny_bind (wpAny_mono last (fun r s' z => ?_) fun _ _ e => e)
    obtain ⟨v, rfl, hq⟩ := z
    exact wpAny_pure hq
  · refine wpAny_bind (wpAny_pure ?_)
    simp only [Bool.false_eq_true, if_false]
    refine wpAny_bind (wpAny_mono last (fun r s' z => ?_) fun _ _ e => e)
    obtain ⟨v, rfl, hq⟩ := z
    exact wpAny_pure hq
end
end XO
end
section
set_option Elab.async false
set_option linter.all false
set_option maxRecDepth 100000
set_option maxHeartbeats 4100000
namespace XO
open PySem PySem.Spec PyProof.Rows L2
/-! ### x + y by an own __add__, both of the class at C -/
section
variable {X : Cx} {CX : CXT} {n : Nat} {C f : Addr} {fd : FuncData} {ps : List Str} {sp : Sp} {E : XK}
def rOwnA (C : Addr) (sp : Sp) (E : XK) : R2 := fun x y H Q => ∃ a dx fs b dy gs, x = .ref a ∧ y = .ref b ∧ H a = some (.ins C dx fs) ∧ H b = some (.ins C dy gs) ∧ sp [.ref a, .ref b] H Q E
theorem op_ownA (F : FnOk X.prog X.w X.K X.mg X.base CX n f fd ps sp) (hs : PySem.W.findIn X.K (.ref C) "__add__" = some (some (.ref f))) (hf : PySem.W.isFn X.K (.ref f) = true) (hb : Binds X.K fd ps []) (hx : Passes CX X E) (room : Room n X.A)
    (hc : PySem.W.selfFirst X.K C = true) : OpR X (binaryOp .Add) (rOwnA C sp E) := by
  intro pins s σ H x y v u Q I rx ry want
  obtain ⟨a, dx, fs, b, dy, gs, rfl, rfl, ha, hb', q⟩ := want
  cases (show v = Value.ref a from rx)
  cases (show u = Value.ref b from ry)
  obtain ⟨mA, J, _⟩ := ins_get I.hok ha
  obtain ⟨od, J, _⟩ := J.look
  obtain ⟨mB, J', _⟩ := ins_get I.hok hb'
  obtain ⟨od', J', _⟩ := J'.look
  obtain ⟨m, hF⟩ := I.fr
  refine PySem.W.binop_K (op := .Add) hF I.ok.mod.kin J J'.type hc hs hf ?_
  have r2 : Vals [V.ref a, V.ref b] [Value.ref a, Value.ref b] := .cons rfl (.cons rfl .nil)
  have hl := F.len _ _ _ _ q
  refine wpAny_call (codeAny_mono (F.run X.A X.stack s H ⟨[.ref a, .ref b], []⟩ [.ref a, .ref b] [.ref a, .ref b] _ E room I.env0 (by
    have := hb s [.ref a, .ref b] I.kIn (by simpa using hl)
    simpa using this) r2 q) fun r s' res => ?_)
  cases r with
  | error e => exact hx pins σ H s e s' I res
  | ok fl =>
    cases fl with
    | ret w =>
      obtain ⟨z, H', I', rz, q3⟩ := I.after res
      exact SlX.cmpback rz ⟨z, H', I', rz, q3⟩
    | next => exact False.elim res
    | brk => exact False.elim res
    | cont => exact False.elim res
end
end XO
namespace XV
open PySem PySem.Spec PyProof.Rows L2 StX
section
variable {X : Cx} {CX : CXT} {k : Nat} {f C : Addr} {ks : List Str} {sp : List V → List V → Hp → VK → XK → Prop} {E : XK} {x : Str} {p pos : Pos} {kws : List Keyword} {t tk : TA} {tf : TE}
/-- c(k = v, ..), c a name of any kind that is the class at C -/
theorem pe_makeVKn (M : Mk X.K C f) (F : FnV X.prog X.w X.K X.mg X.base CX k f ks sp) (hr : Room (k + 1) X.A) (hf : PE X (.Name x p) tf) (hx : Passes CX X E) (hkw : PK X kws tk)
    (hall : (backToKw pos (keywordEach kws X.env)).all (·.1.isSome) = true := by rfl) (hks : (backToKw pos (keywordEach kws X.env)).filterMap (·.1) = ks := by rfl)
    (hpl : ((backTo pos (starEach [] X.env)).any (·.1) || (backToKw pos (keywordEach kws X.env)).any (·.1.isNone)) = false := by rfl) : PE X (.Call (.Name x p) [] kws pos) (fun σ H Q => tf σ H fun c H1 => c = .ref C ∧ tMakeV C ks.length sp E tNil tk σ H1 Q) := by
  refine ⟨fun pins s σ H Q I h => ?_⟩
  refine wpAny_Call_Name_kw (thn (hf.run pins s σ H _ I h) fun u s1 ⟨c, H1, I1, rc, ec, q1⟩ => ?_)
  subst ec
  obtain rfl : u = Value.ref C := rc
  refine PySem.W.callWith_KW0 (h₀ := X.base) I1.ok.mod.kin M.kp hall ?_ hpl
  refine thn (hkw.run pos pins s1 σ H1 _ I1 q1) fun ws s2 ⟨zs, H2, I2, rz, l2, q2⟩ => ⟨I2.kIn, ?_⟩
  rw [hks]
  exact run_makeV (us := []) (vs := []) M F hr hx I2 .nil rz l2 q2
end
end XV
end
section
set_option Elab.async false
set_option linter.all false
set_option maxRecDepth 100000
set_option maxHeartbeats 4100000
namespace PySem
open Sem (wp)
open AutoSeq1 (wpAny_loadPart')
/-! ### enumerate(tuple) -/
theorem meets_enumerate_newT (l : Addr) (items : Array Value) (n : Nat) (dct : Option Addr) (sl : Array (Option Value)) :
    Meets (Builtin.«enumerate.__new__» ⟨[.type "enumerate", .ref l], []⟩) (fun _ R s => s.heap.get? l = some { cls := .type "tuple", dict := dct, data := .seq items n, slots := sl } ∧
      R (.ok (.ret (.ref (s.heap.push { cls := .type "tuple_iterator", data := .fields #[.ref l, .int 0 0] }).objs.size)))
        { s with heap := (s.heap.push { cls := .type "tuple_iterator", data := .fields #[.ref l, .int 0 0] }).push { cls := .type "enumerate", data := .fields #[.none, .bool false, .ref s.heap.objs.size, rawInt 0, .none, .none] } }) :=
  .of_wp fun prog w A R s h => by
    obtain ⟨hp, g, d, tk, os⟩ := s; obtain ⟨hl, h⟩ := h
    have hsub := sub_enumerate
    have hL : Heap.IsTuple (Shared.heap ⟨hp, g, d, tk, os⟩) l items := ⟨_, hl, rfl, n, rfl⟩
    wp_walk using wpAny_loadPart' hl
    refine wpAny_stack_any fun st => wpAny_pure ?_
    split
    · rename_i c _ _ _ _ _
      cases (c == Value.type "enumerate")
      · wp_walk using wpAny_loadPart' hl, wpAny_pyIter_tuple hL
        exact ⟨_, rfl, h⟩
      · wp_walk using wpAny_loadPart' hl, wpAny_pyIter_tuple hL
        exact ⟨_, rfl, h⟩
    · wp_walk using wpAny_loadPart' hl, wpAny_pyIter_tuple hL
      exact ⟨_, rfl, h⟩
theorem call_enumerate_tuple {prog : Program} {w : World} {A : Around} {E : Value → Shared → Prop} {s : Shared} {l : Addr} {items : Array Value} {Q : Value → Shared → Prop} (hL : s.heap.IsTuple l items)
    (h : ∀ h', IsEnum h' (s.heap.objs.size + 1) s.heap.objs.size 0 .none → h'.IsTupleIter s.heap.objs.size l 0 → h'.objs.size = s.heap.objs.size + 2 →
      (∀ b o, s.heap.get? b = some o → h'.get? b = some o) → Q (.ref (s.heap.objs.size + 1)) { s with heap := h' }) :
    wpAny (model prog w) A (call (.type "enumerate") [.ref l]) Q E s := by
  obtain ⟨⟨c, dct, dt, sl⟩, hl, hc, n, hd⟩ := hL
  replace hc : c = .type "tuple" := hc
  replace hd : dt = .seq items n := hd
  subst hc hd
  refine callType_new F.called_enumerate (by decide) (F.typeCall_enumerate_1 _) (F.newCall_enumerate_1 _) (fun obj => F.args_object_init_2 obj _) F.entry_enumerate_new
    (meets_enumerate_newT l items n dct sl) ⟨hl, ?_⟩
  have hz : (s.heap.push { cls := .type "tuple_iterator", data := .fields #[.ref l, .int 0 0] }).objs.size = s.heap.objs.size + 1 := Heap.size_push ..
  show _ ∧ _
  rw [hz]
  have he : IsEnum ((s.heap.push { cls := .type "tuple_iterator", data := .fields #[.ref l, .int 0 0] }).push
      { cls := .type "enumerate", data := .fields #[.none, .bool false, .ref s.heap.objs.size, rawInt 0, .none, .none] }) (s.heap.objs.size + 1) s.heap.objs.size 0 .none := by
    have := Heap.get?_push_size (s.heap.push { cls := .type "tuple_iterator", data := .fields #[.ref l, .int 0 0] })
      (o := { cls := .type "enumerate", data := .fields #[.none, .bool false, .ref s.heap.objs.size, rawInt 0, .none, .none] }) rfl
    rw [hz] at this; exact this
  refine ⟨⟨_, he, rfl⟩, h _ he ⟨_, Heap.get?_push_of_some _ (Heap.get?_push_size _ rfl), rfl, rfl⟩ (by rw [Heap.size_push, hz]) fun b o x => Heap.get?_push_of_some _ (Heap.get?_push_of_some _ x)⟩
end PySem
namespace XE
open PySem PySem.Spec PyProof.Rows L2
/-- the tuple at a as it stands at each turn, each item in a new pair -/
def IteT (K : PySem.W.Frag) (a : Addr) : It :=
  ⟨fun i H => ∃ (xs : List V) (x : V), SqT K H a xs ∧ xs[i]? = some x, fun i H v H' => ∃ T x, v = .ref T ∧ H T = none ∧ H' = upd H T (.tup [.int (i : Nat), x]) ∧ ∀ xs, SqT K H a xs → xs[i]? = some x, fun i H => ∃ xs : List V, SqT K H a xs ∧ xs.length = i⟩
theorem turn_enumT {P : Program} {w : World} {K : PySem.W.Frag} {elts : List Expr} {kk : Nat} {tpos : Pos} (a e it : Addr) (ae : a ≠ e) (ai : a ≠ it) :
    Turn P w K (.Tuple elts kk tpos) (IteT K a) [e, it] e (fun i h => (∃ old, IsEnum h e it ((i : Nat) : Int) old) ∧ h.IsTupleIter it a i ∧ e ≠ it) where
  mem := by simp
  obj := fun i h st b hb => by
    obtain ⟨⟨old, he⟩, ⟨o, ho, hc, hd⟩, _⟩ := st
    have e' : b = e ∨ b = it := by simpa using hb
    rcases e' with z | z
    · rw [z]; exact ⟨_, he, fun v q => nomatch q⟩
    · rw [z]; exact ⟨o, ho, fun v q => by rw [hd] at q; cases q⟩
  keep := fun i h h' st k => let ⟨⟨old, he⟩, hi, hne⟩ := st; ⟨⟨old, k e (by simp) _ he⟩, hi.at fun o q => k it (by simp) o q, hne⟩
  item := by
    intro X hP hw hK hc i pins s σ H E I hf st hg
    subst hP hw hK
    obtain ⟨⟨old, he⟩, hit, hne⟩ := st
    obtain ⟨xs, x, hq, hx⟩ := hg
    obtain ⟨its, rv, p, hz⟩ := I.tuple hq
    obtain ⟨u, hu, ru⟩ := rv.get hx
    have hel : e < s.heap.objs.size := Heap.lt_size he
    have hil : it < s.heap.objs.size := by obtain ⟨_, q, _⟩ := hit; exact Heap.lt_size q
    have hil' : i < its.toArray.size := by
      have := (List.getElem?_eq_some_iff.mp hu).1
      simpa using this
    refine wpAny_pyNext_enum_itemD (Draws.tuple (A := X.A.in1) (show X.A.in1.handled = none from I.ok.hd hc) it a ai its.toArray) he ⟨hit, show s.heap.IsTuple a its.toArray from p⟩ hil' hne (by simp [hne, Ne.symm ae]) fun x' h' tk hx' ho hit' hT hsz hk => ?_
    have ex : x' = u := by
      have z : its[i]? = some x' := by simpa using hx'
      rw [hu] at z
      exact (Option.some.inj z).symm
    subst ex
    refine ⟨_, rfl, wpAny_letOwnedTupleGo_enum (s := { s with heap := h', toks := tk + 1 }) ho fun h'' he' sb => ?_⟩
    have hT2 : h''.get? s.heap.objs.size = some { cls := .type "tuple", data := .seq #[.int i tk, x'] } := (sb.2 _ (Nat.ne_of_gt hel)).trans hT
    have new : ObjOk X.prog X.w (upd H s.heap.objs.size (.tup [.int (i : Nat), x])) h'' s.heap.objs.size (.tup [.int (i : Nat), x]) :=
      ⟨by show 2 ≤ sizeLine; decide, [.int i tk, x'], .cons ⟨_, rfl⟩ (.cons ru .nil), ⟨_, hT2, rfl, _, rfl⟩⟩
    have I1 : Inv X pins σ (upd H s.heap.objs.size (.tup [.int (i : Nat), x])) { s with heap := h'', toks := tk + 1 } :=
      I.turnedNew (ch := [e, it]) (fun b ob hb q => (sb.2 b (fun z => hb (by simp [z]))).trans (hk b ob (fun z => hb (by simp [z])) (fun z => hb (by simp [z])) q)) hf (Nat.le_refl _) new
    refine ⟨.ref s.heap.objs.size, _, I1, rfl, ⟨_, x, rfl, I.hok.fresh (Nat.le_refl _), rfl, fun ys hy => by rw [I.tuple_inj hy hq]; exact hx⟩, ⟨⟨x', ?_⟩, hit'.1.at fun o q => (sb.2 it (Ne.symm hne)).trans q, hne⟩, fun b hb => ?_⟩
    · have e1 : ((i + 1 : Nat) : Int) = (i : Int) + 1 := by omega
      rw [e1]; exact he'
    · have hb' : b < s.heap.objs.size := by
        have e' : b = e ∨ b = it := by simpa using hb
        rcases e' with z | z
        · rw [z]; exact hel
        · rw [z]; exact hil
      rw [upd_ne (Nat.ne_of_lt hb')]
      exact (hf b hb).1
  done := by
    intro X hP hw hK hc i pins s σ H E I hf st hg
    subst hP hw hK
    obtain ⟨⟨old, he⟩, hit, hne⟩ := st
    obtain ⟨xs, hq, hx⟩ := hg
    obtain ⟨its, rv, p, hz⟩ := I.tuple hq
    obtain ⟨f0, f1, f2, f3, f4, f5⟩ := hf it (by simp)
    have hl := rv.length
    have ei : i = its.toArray.size := by simp; omega
    subst ei
    exact wpAny_pyNext_enum_endD (Draws.tuple (A := X.A.in1) (show X.A.in1.handled = none from I.ok.hd hc) it a ai its.toArray) he ⟨hit, show s.heap.IsTuple a its.toArray from p⟩ fun h' eb => ⟨rfl, I.turned (t' := s.toks) (fun b o hb q => eb b o hb q) f0 f1 f3 f4 f5⟩
  self := fun A i s Q E st h => let ⟨⟨_, he⟩, _⟩ := st; wpAny_pyIter_enum he h
def iEnumT (K : PySem.W.Frag) (ta : TA) : TI := fun σ H R => ta σ H fun vs H1 => ∃ a xs, vs = [.ref a] ∧ SqT K H1 a xs ∧ R (IteT K a) H1
theorem pi_enumT {X : Cx} {e : Expr} {ta : TA} {p pos tpos : Pos} {elts : List Expr} {kk : Nat} (hg : Gl X "enumerate") (hm : X.mg "enumerate" = none) (ha : PA X [e] ta) (hs : starEach [e] X.env = [(false, eval e X.env)] := by rfl) :
    PI X (.Tuple elts kk tpos) (.Call (.Name "enumerate" p) [e] [] pos) (iEnumT X.K ta) := by
  refine ⟨fun pins s σ H R I h => ?_⟩
  refine Call_ (ld_blt I hg hm boot_enumerate (PyProof.Rows.callWith_type1 (thn (ha.run pos pins s σ H _ I h) fun us s1 ⟨vs, H1, I1, r1, q1⟩ => ?_) hs rfl))
  obtain ⟨a, xs, ex, hq, q⟩ := q1
  subst ex
  cases r1 with
  | cons r rr =>
    cases rr
    cases r
    obtain ⟨its, rv, p', hz⟩ := I1.tuple hq
    have la : a < s1.heap.objs.size := by
      obtain ⟨o, ho, _⟩ := (show s1.heap.IsTuple a its.toArray from p')
      exact Heap.lt_size ho
    refine call_enumerate_tuple (show s1.heap.IsTuple a its.toArray from p') fun h' he hit hsz hk => wpAny_pyIter_enum he ?_
    have I2 : Inv X pins σ H1 { s1 with heap := h' } := I1.kept (t' := s1.toks) hk
    refine ⟨s1.heap.objs.size + 1, [s1.heap.objs.size + 1, s1.heap.objs.size], _, _, H1, rfl, I2, turn_enumT a (s1.heap.objs.size + 1) s1.heap.objs.size (Nat.ne_of_lt (Nat.lt_succ_of_lt la)) (Nat.ne_of_lt la), ⟨⟨.none, he⟩, hit, Nat.succ_ne_self _⟩, fun b hb => ?_, q⟩
    have e' : b = s1.heap.objs.size + 1 ∨ b = s1.heap.objs.size := by simpa using hb
    have hle : s1.heap.objs.size ≤ b := by
      rcases e' with z | z
      · rw [z]; exact Nat.le_add_right _ _
      · rw [z]; exact Nat.le_refl _
    exact I1.fpOk hle (I1.hok.fresh hle)
theorem walk_enumT {K : PySem.W.Frag} {a : Addr} {xs : List V} : Walk (IteT K a) xs.length (fun H => SqT K H a xs) (YPair (fun i => some (.int (i : Nat))) (fun i => xs[i]?)) := by
  refine ⟨fun i _ hi q => ⟨xs, xs[i], q, by simp [hi]⟩, fun _ q => ⟨xs, q, rfl⟩, fun i H v H' _ q y => ?_⟩
  obtain ⟨T, x, h1, h2, h3, h4⟩ := y
  exact ⟨T, .int (i : Nat), x, h1, h2, h3, rfl, h4 xs q⟩
end XE
end
section
set_option Elab.async false
set_option linter.all false
set_option maxRecDepth 100000
set_option maxHeartbeats 4100000
namespace XK
open PySem PySem.Spec PyProof.Rows L2
/-! ### raise x(a), an own exception class on any built-in base, whose __init__ keeps one field -/
section
variable {X : Cx} {x f : Str} {C : Addr} {k : Nat} {a : Expr} {ta : TA} {p pos : Pos}
def tRz (C : Addr) (f : Str) (ta : TA) : L2.St → Hp → XK → Prop := fun σ H Q => ta σ H fun vs H1 => ∃ v, vs = [v] ∧ ∀ d, H1 d = none → Q (.ref C) (some d) (upd H1 d (.xd [(f, v)]))
theorem pmk_ex1 (T : XT X.K C) (J : XI X.K C f) (tyC : PySem.W.typeIn X.K (.ref C) = some (.type "type")) (hr : Room k X.A) (gC : X.mg x = some (.ref C)) (hfd : (f == ("__debug__" : Str)) = false) (ha : PA X [a] ta) (hg : Gl X x := by rfl) (hdb : (x == ("__debug__" : Str)) = false := by decide)
    (he : starEach (a :: []) X.env = (false, eval a X.env) :: starEach [] X.env := by rfl) (hpl : (backTo pos (starEach [] X.env)).any (·.1) = false := by rfl) :
    PMk X (.Call (.Name x p) [a] [] pos) (tRz C f ta) := by
  intro pins s σ H Q I want
  refine wpAny_Call_Name_kw (ld_glob I hg gC ?_ hdb)
  refine PySem.W.callWith_K (h₀ := X.base) I.ok.mod.kin T.kC (thn (ha.run pos pins s σ H _ I want) fun us s1 got => ?_) he hpl
  obtain ⟨vs, H1, I1, r1, v, ev, q1⟩ := got
  subst ev
  refine ⟨I1.kIn, ?_⟩
  cases r1 with
  | cons rv rn =>
    rename_i v' us'
    cases rn
    show wpAny _ _ (call (.ref C) [v']) _ _ _
    refine wpAny_call (made_one (v := v') T J hfd I1.kIn I1.nolimit (by have := hr.dp; omega) [v'] [] (.inl ⟨rfl, rfl⟩) fun h' tk e d M => ?_)
    obtain ⟨G, g1, g2⟩ := restrict h' fun b => decide (b ≠ e)
    have gk : ∀ b, b ≠ e → G.get? b = h'.get? b := fun b hb => g1 b (decide_eq_true hb)
    have ge : G.get? e = none := g2 e (by simp)
    have up : ∀ b o, G.get? b = some o → h'.get? b = some o := fun b o z => by
      by_cases hb : b = e
      · rw [hb, ge] at z
        cases z
      · exact (gk b hb).symm.trans z
    have kG : ∀ b o, s1.heap.get? b = some o → G.get? b = some o := fun b o z => (gk b (Nat.ne_of_lt (Nat.lt_of_lt_of_le (Heap.lt_size z) M.eb))).trans (M.keep b o z)
    have nd : H1 d = none := I1.hok.fresh M.db
    have ne : H1 e = none := I1.hok.fresh M.eb
    have J1 : Inv X pins σ (upd H1 d (.xd [(f, v)])) { s1 with heap := G, toks := tk } := I1.laid (t' := tk) (a := d) (h' := G) kG M.db ⟨_, M.ns.at fun o y => (gk d M.ne).trans y, rel_one rv⟩
    obtain ⟨t0, ho⟩ := M.obj
    exact ⟨e, _, _, { s1 with heap := G, toks := tk }, _, .ref C, some d, rfl, J1, up, ge, ho, ⟨rfl, rfl⟩, rfl, rfl, by rw [upd_ne (Ne.symm M.ne)]; exact ne, rfl, I1.bare, raises_own T.exC tyC, q1 d nd⟩
end
end XK
end
section
set_option Elab.async false
set_option linter.all false
set_option maxRecDepth 100000
set_option maxHeartbeats 4100000
namespace LA
open PySem L2 XS XT LM XK LamX StX PyProof.Rows
/-- the def at place j of the class at place i -/
def cb (i j : Nat) : Stmt := match top i with
  | .ClassDef (body := b) .. => b.getD j (.Pass ⟨0, 0, 0, 0⟩)
  | _ => .Pass ⟨0, 0, 0, 0⟩
abbrev sLI : Stmt := cb 32 0
abbrev sLof : Stmt := cb 32 1
abbrev sLlen : Stmt := cb 32 2
abbrev sLblk : Stmt := cb 32 3
abbrev sLat : Stmt := cb 32 4
abbrev sLpart : Stmt := cb 32 5
abbrev sLadd : Stmt := cb 32 7
/-- the class of long texts -/
structure KLg (K : PySem.W.Frag) (C : Addr) : Prop where
  cls : Cls K C
  no : NoAttr K C "_blocks"
/-- an own error that keeps one field -/
structure Err1 (K : PySem.W.Frag) (mg : Str → Option Value) (x fld : Str) (D : Addr) : Prop where
  T : XT K D
  J : XI K D fld
  ty : PySem.W.typeIn K (.ref D) = some (.type "type")
  m : mg x = some (.ref D)
/-- the error at D is raised with this value -/
def Refz (D : Addr) (fld : Str) (x : V) (H : Hp) (E : XK) : Prop := ∀ (d : Addr) (H' : Hp), H d = none → Same H H' → H' d = some (.xd [(fld, x)]) → E (.ref D) (some d) H'
theorem Refz.later {D : Addr} {fld : Str} {x : V} {H H1 : Hp} {E : XK} (s : Same H H1) (r : Refz D fld x H E) : Refz D fld x H1 E := fun d H' n s2 e => r d H' (s.free n) (s.trans s2) e
theorem Refz.now {D : Addr} {fld : Str} {x : V} {H : Hp} {E : XK} (r : Refz D fld x H E) : ∀ d, H d = none → E (.ref D) (some d) (upd H d (.xd [(fld, x)])) := fun d nd => r d _ nd (same_upd nd) upd_same
/-- the program's long text with these blocks -/
def LT (C : Addr) (H : Hp) (bs : List (Bk Str)) (v : V) : Prop := ∃ (a dx t : Addr) (us : List V), v = .ref a ∧ H a = some (.ins C dx [("_blocks", .ref t)]) ∧ H t = some (.tup us) ∧ Paired (fun b v => BkT H b v) bs us
theorem LT.same {C : Addr} {H H' : Hp} (s : Same H H') {bs : List (Bk Str)} {v : V} (h : LT C H bs v) : LT C H' bs v := by
  obtain ⟨a, dx, t, us, e, h1, h2, h3⟩ := h
  exact ⟨a, dx, t, us, e, s _ _ h1, s _ _ h2, bkT_same s h3⟩
theorem look0 {k : Str} {v : V} : [(k, v)].lookup k = some v := by
  rw [List.lookup_cons_self]
/-- right blocks, not too many of them -/
structure Rb (bs : List (Bk Str)) : Prop where
  ok : ∀ b ∈ bs, Vb b
  few : bs.length ≤ 100
/-- LongText.__init__, with its keyword's default in the dict at D -/
structure FunV (K : PySem.W.Frag) (f D : Addr) : Prop where
  ex : ∃ (oc : Value) (od : Option Addr) (doc pm : Value) (an : Option Addr) (cdv ct : Value) (osl : Array (Option Value)), K.lookup f = some ⟨oc, od, .func (PySem.W.fnOf "__init__" "LongText.__init__" (defArgs sLI) (defBody sLI) (defScope sLI) .none (.ref D) doc pm an cdv ct), osl⟩ ∧ PySem.W.codeIn K cdv "LongText.__init__" = true
  dd : PySem.W.nsIn K D "_blocks" = some (some .none)
theorem scLI : FnScope ["self", "_blocks", "blocks", "index", "value", "lines", "times"] ["self", "_blocks", "blocks"] (defScope sLI) := ⟨rfl, rfl, rfl, by decide +kernel, rfl, by decide +kernel, by decide +kernel⟩
/-- the first value that is no block -/
def badD (ds : List PyData) : Option Nat := ds.findIdx? fun d => !blkD d
theorem bad_at {ds : List PyData} {k : Nat} (h : badD ds = some k) : ∃ d, ds[k]? = some d ∧ blkD d = false ∧ ∀ j, j < k → ∀ e, ds[j]? = some e → blkD e = true := by
  unfold badD at h
  rw [List.findIdx?_eq_some_iff_getElem] at h
  obtain ⟨lt, e, pre⟩ := h
  refine ⟨ds[k], List.getElem?_eq_getElem lt, by simpa using e, fun j hj d hd => ?_⟩
  have z := pre j hj
  obtain ⟨l2, e2⟩ := List.getElem?_eq_some_iff.mp hd
  rw [e2] at z
  simpa using z
theorem bad_none {ds : List PyData} (h : badD ds = none) : ∀ d ∈ ds, blkD d = true := by
  unfold badD at h
  rw [List.findIdx?_eq_none_iff] at h
  intro d hd
  simpa using h d hd
theorem DzAll.blocks {N : Addr → Prop} {H : Hp} : ∀ {us : List V} {ds : List PyData}, DzAll N H us ds → (∀ d ∈ ds, blkD d = true) → ∃ bs : List (Bk Str), Paired (fun b v => BkE N H b v) bs us ∧ (∀ b ∈ bs, Vb b ∧ b.1.length ≤ 4)
  | _, _, .nil, _ => ⟨[], .nil, fun _ h => by cases h⟩
  | _, _, .cons a r, h => by
    obtain ⟨b, vb, l4, e⟩ := a.block (h _ (List.mem_cons_self ..))
    obtain ⟨bs, p, q⟩ := DzAll.blocks r fun d hd => h d (List.mem_cons_of_mem _ hd)
    refine ⟨b :: bs, .cons e p, fun c hc => ?_⟩
    rcases List.mem_cons.mp hc with z | z
    · rw [z]
      exact ⟨vb, l4⟩
    · exact q c z
def teLI (K : PySem.W.Frag) : TE := tTup (tCons (tThen (tVar 5) (kTup K)) (tCons (tVar 6) tNil))
section
variable {P : Program} {w : World} {K : PySem.W.Frag} {mg : Str → Option Value} {base : Heap} {C DB DM DR DX : Addr}
theorem passN {X : Cx} : Passes (L2.CX X.prog X.w) X E0 := fun _ _ _ _ _ _ _ ⟨_, _, _, _, _, _, _, _, _, _, _, _, z⟩ => z.elim
/-- what is made of values: a text of blocks, or an error -/
def MadeOf (C DB DM : Addr) (a dx : Addr) (us : List V) (H : Hp) (Q : VK) (E : XK) : Prop := ∃ (N : Addr → Prop) (ds : List PyData), DzAll N H us ds ∧ us.length ≤ 1000 ∧ (∀ k, badD ds = some k → Refz DB "index" (.int (k : Int)) H E) ∧ (badD ds = none → 10 < us.length → Refz DM "limit" (.int 10) H E) ∧
  (∀ bs, us.length ≤ 10 → Paired (fun b v => BkE N H b v) bs us → (∀ b ∈ bs, Vb b ∧ b.1.length ≤ 4) → ∀ (t : Addr) (ws : List V) (H' : Hp), H' a = some (.ins C dx [("_blocks", .ref t)]) → H' t = some (.tup ws) → Paired (fun b v => BkT H' b v) bs ws → But a H H' → Q .non H')
/-- what the body of __init__ is told -/
def spIB (C DB DM : Addr) : Sp := fun vs H Q E => ∃ (a dx p : Addr) (v : V), vs = [.ref a, v, .ref p] ∧ H a = some (.ins C dx []) ∧
  ((v = .non ∧ ∃ us, H p = some (.tup us) ∧ MadeOf C DB DM a dx us H Q E) ∨
   (∃ t, v = .ref t ∧ H p = some (.tup []) ∧ ∀ H', H' a = some (.ins C dx [("_blocks", v)]) → But a H H' → Q .non H'))
theorem body_LI {f : Addr} {cdv : Value} {A : Around} {outer : List Env} {s : Shared} {H : Hp} {vs : List V} {Q : VK} {E : XK} {f1 : Addr} {fd1 : FuncData} {tk1 : Tok} (T : KLg K C) (EB : Err1 K mg "InvalidBlock" "index" DB) (EM : Err1 K mg "TooMany" "limit" DM) (mE : mg "enumerate" = none) (mL : mg "len" = none) (mT : mg "tuple" = none) (m10 : mg "MAX_BLOCKS" = some (.int 10 tk1)) (IB : CallOf P w K mg base 4 "is_block" ["value"] (spQ blkD) f1 fd1)
    (hr : Room 4 (A.deeper (envOfC "LongText.__init__" (defScope sLI) s.heap.objs.size f cdv))) (h : spIB C DB DM vs H Q E) :
    ∃ t, PSs (cxOf (L2.CX P w) P w K mg base ["self", "_blocks", "blocks", "index", "value", "lines", "times"] "LongText.__init__" (defScope sLI) f cdv A outer s H E) (defBody sLI) t ∧ t { nx := fun _ H' => Q .non H', rt := Q } (start ["self", "_blocks", "blocks", "index", "value", "lines", "times"] vs) H := by
  have hr4 := hr
  obtain ⟨a, dx, p, v, rfl, ha, alt⟩ := h
  refine ⟨_, pss_cons (by exact (ps_for (passes_of rfl) rfl (XE.pi_enumT rfl mE (pa_cons (pv 2) pa_nil)) (pg_tup rfl (pgs_cons (by exact (pg_name (i := 3) scLI.nd rfl (Or.inl rfl))) (pgs_cons (by exact (pg_name (i := 4) scLI.nd rfl (Or.inl rfl))) pgs_nil))) (pss_one (by exact (ps_if (pt_not (pt_val (pe_call IB.ok hr rfl IB.m IB.k IB.b .nil pass0 (pa_cons (pv 4) pa_nil)))) (pss_one (by exact (ps_raise rfl (takes_of rfl rfl rfl rfl) (pmk_ex1 EB.T EB.J EB.ty hr4 EB.m (by decide) (pa_cons (pv 3) pa_nil))))) pss_nil)))))
      (pss_cons (by exact (ps_if (pt_cmpR op_gt (pe_callB call_len_seq (by rfl) mL PySem.boot_len (pa_cons (pv 2) pa_nil)) (pe_glob (v := .int 10) rfl m10 ⟨_, rfl⟩) (nomark _)) (pss_one (by exact (ps_raise rfl (takes_of rfl rfl rfl rfl) (pmk_ex1 EM.T EM.J EM.ty hr4 EM.m (by decide) (pa_cons (pe_glob (v := .int 10) rfl m10 ⟨_, rfl⟩) pa_nil))))) pss_nil))
      (pss_one (by exact (ps_fld (pv 0) (pe_ifExp (pt_cmpR op_isN (pv 1) pe_non (nomark _)) (pe_tupleOf rfl mT (pe_lc (own := [("lines", 5), ("times", 6)]) (g := gTup K 2 (gCons (gName 5) (gCons (gName 6) gNil))) (tt := tYes) (te := teLI K) rfl scLI.nd (pi_tup (pv 2))
        (blkOk_by (N := ["self", "_blocks", "blocks", "index", "value", "lines", "times"]) (sc := defScope sLI) (by decide +kernel))
        (fun _ _ _ _ _ => by exact (pg_tup rfl (pgs_cons (by exact (pg_name (i := 5) scLI.nd rfl (Or.inl rfl))) (pgs_cons (by exact (pg_name (i := 6) scLI.nd rfl (Or.inl rfl))) pgs_nil))))
        (fun _ _ _ _ _ => by exact pts_nil)
        (fun _ _ _ _ _ => by exact (pe_tup (pa_cons (pe_tupleOf rfl mT (pv 5)) (pa_cons (pv 6) pa_nil)))))) (pv 1)) rfl)))), ?_⟩
  rcases alt with ⟨rfl, us, hp, N, ds, rz, lu, qB, qM, q⟩ | ⟨t, rfl, hp, q⟩
  · refine ⟨_, rfl, p, us, rfl, SqT.of hp, for_it (XE.walk_enumT (K := K) (a := p) (xs := us)) (fun i σ X => (∃ x3 x4 x5 x6 : Option V, σ = [some (.ref a), some .non, some (.ref p), x3, x4, x5, x6]) ∧ Same H X ∧ ∀ j, j < i → ∀ e, ds[j]? = some e → blkD e = true) ⟨⟨none, none, none, none, rfl⟩, (fun _ _ e => e), fun j hj => absurd hj (Nat.not_lt_zero _)⟩ (fun i σ X _ pw => SqT.of (pw.2.1 _ _ hp)) (fun i x σ X X' hi pw yl => ?_) (fun σ X pw => ?_)⟩
    · obtain ⟨⟨x3, x4, x5, x6, rfl⟩, pS, pB⟩ := pw
      obtain ⟨TT, u, z, rfl, nT, rfl, eu, ez⟩ := yl
      obtain ⟨d, hd, hz⟩ := rz.at_ ez
      have sT := pS.trans (same_upd (o := .tup [u, z]) nT)
      obtain rfl : V.int (i : Nat) = u := Option.some.inj eu
      refine ⟨TT, _, rfl, SqT.of upd_same, rfl, _, _, rfl, _, _, rfl, rfl, ?_⟩
      refine ⟨_, rfl, N, z, d, rfl, hz.same sT, fun X2 s2 => ⟨_, rfl, ?_⟩⟩
      cases e : blkD d with
      | true =>
        refine iteF ⟨⟨_, _, _, _, rfl⟩, sT.trans s2, fun j hj e2 h2 => ?_⟩
        by_cases ej : j = i
        · subst ej
          rw [hd] at h2
          cases h2
          exact e
        · exact pB j (by omega) e2 h2
      | false =>
        refine iteT ⟨_, rfl, _, rfl, ?_⟩
        have eb : badD ds = some i := by
          unfold badD
          rw [List.findIdx?_eq_some_iff_getElem]
          obtain ⟨lt, e2⟩ := List.getElem?_eq_some_iff.mp hd
          refine ⟨lt, by rw [e2, e]; rfl, fun j hj => ?_⟩
          rw [pB j hj _ (List.getElem?_eq_getElem (Nat.lt_trans hj lt))]
          decide
        exact ((qB i eb).later (sT.trans s2)).now
    · obtain ⟨⟨x3, x4, x5, x6, rfl⟩, pS, pB⟩ := pw
      have hpX := pS _ _ hp
      have lz := rz.len
      have allD : ∀ d ∈ ds, blkD d = true := fun d hd => by
        obtain ⟨j, hj, e⟩ := List.mem_iff_getElem.mp hd
        exact pB j (by omega) d (by rw [List.getElem?_eq_getElem hj, e])
      have nb : badD ds = none := by
        unfold badD
        rw [List.findIdx?_eq_none_iff]
        intro d hd
        rw [allD d hd]
        rfl
      refine ⟨_, rfl, p, us, rfl, .inr (SqT.of hpX), _, _, rfl, rfl, _, rfl, ?_⟩
      by_cases l10 : 10 < us.length
      · rw [decide_eq_true (show (10 : Int) < (us.length : Int) by omega)]
        exact iteT ⟨_, rfl, ((qM nb l10).later pS).now⟩
      rw [decide_eq_false (show ¬ ((10 : Int) < (us.length : Int)) by omega)]
      obtain ⟨bs, pr, vb⟩ := rz.blocks allD
      refine iteF ?_
      refine ⟨_, rfl, rfl, _, rfl, iteT ?_⟩
      refine ⟨_, rfl, p, rfl, ⟨_, SqT.of hpX⟩, fun D nD => ?_⟩
      refine lc_it (walk_tup (K := K) (a := p) (xs := us)) (fun i Y => (∃ ws, Y D = some (.lst ws) ∧ Paired (fun b v => BkT Y b v) (bs.take i) ws) ∧ Same H Y) ⟨⟨[], upd_same, .nil⟩, pS.trans (same_upd nD)⟩ (fun i Y _ pw => SqT.of (pw.2 _ _ hp)) (fun i x Y Y' hi pw yl => ?_) (fun Y pw => ?_)
      · obtain ⟨⟨ws, pD, pp⟩, pY⟩ := pw
        obtain ⟨rfl, hx⟩ := yl
        obtain ⟨b, hb, tb, ab, o, rfl, _, _, h1, h2, ho⟩ := pair_at pr hx
        have nxt : ∀ (q1 : Addr) (Y1 : Hp), Same Y' Y1 → Y1 q1 = some (.tup (b.1.map V.str)) → ∀ q2, Y1 q2 = none → ∃ acc, (upd Y1 q2 (.tup [.ref q1, .int (b.2 : Int)])) D = some (.lst acc) ∧ acc.length < sizeLine ∧ ((∃ ws, (upd (upd Y1 q2 (.tup [.ref q1, .int (b.2 : Int)])) D (.lst (acc ++ [.ref q2]))) D = some (.lst ws) ∧ Paired (fun c v => BkT (upd (upd Y1 q2 (.tup [.ref q1, .int (b.2 : Int)])) D (.lst (acc ++ [.ref q2]))) c v) (bs.take (i + 1)) ws) ∧ Same H (upd (upd Y1 q2 (.tup [.ref q1, .int (b.2 : Int)])) D (.lst (acc ++ [.ref q2])))) := by
          intro q1 Y1 sA h1q q2 n2
          have sB := same_upd (o := .tup [.ref q1, .int (b.2 : Int)]) n2
          have pD1 := sA _ _ pD
          refine ⟨ws, sB _ _ pD1, ?_, ⟨ws ++ [.ref q2], upd_same, ?_⟩, ?_⟩
          · rw [← pair_len pp, List.length_take, pair_len pr]
            exact Nat.lt_of_le_of_lt (Nat.min_le_right _ _) (Nat.lt_of_le_of_lt (Nat.le_of_not_lt l10) (by decide))
          · rw [List.take_succ, hb]
            have bt : But D Y' (upd (upd Y1 q2 (.tup [.ref q1, .int (b.2 : Int)])) D (.lst (ws ++ [.ref q2]))) := But.same_put (sA.trans sB)
            have n2D : q2 ≠ D := (ne_of_none pD1 n2).symm
            have n1D : q1 ≠ D := fun z => by
              rw [z, pD1] at h1q
              cases h1q
            have n12 : q1 ≠ q2 := ne_of_none h1q n2
            exact pair_app (L2.Paired.mapP pp fun _ _ z => z.but (fun xs e => by rw [pD] at e; cases e) bt) (.cons ⟨q2, q1, rfl, by rw [upd_ne n2D]; exact upd_same, by rw [upd_ne n1D, upd_ne n12]; exact h1q⟩ .nil)
          · intro c o e
            rw [upd_ne (ne_of_none (pS _ _ e) nD)]
            exact sB _ _ (sA _ _ (pY _ _ e))
        refine ⟨tb, _, rfl, SqT.of (pY _ _ h1), rfl, _, _, rfl, _, _, rfl, rfl, rfl, ?_⟩
        dsimp only [tYes]
        rw [if_pos rfl]
        rcases ho with rfl | rfl
        · refine ⟨_, rfl, .inl ⟨ab, _, rfl, SqL.of (pY _ _ h2), fun q1 n1 => ⟨_, rfl, (by show 2 ≤ sizeLine; decide), fun q2 n2 => ?_⟩⟩⟩
          exact nxt q1 _ (same_upd n1) upd_same q2 n2
        · refine ⟨_, rfl, .inr ⟨ab, _, rfl, SqT.of (pY _ _ h2), ⟨_, rfl, (by show 2 ≤ sizeLine; decide), fun q2 n2 => ?_⟩⟩⟩
          exact nxt ab _ (fun _ _ e => e) (pY _ _ h2) q2 n2
      · obtain ⟨⟨ws, pD, pp⟩, pY⟩ := pw
        refine .inl ⟨D, ws, rfl, SqL.of pD, fun t nt => ?_⟩
        have sT := same_upd (o := .tup ws) nt
        have hY := pY _ _ ha
        refine ⟨_, rfl, a, C, dx, [], rfl, sT _ _ hY, T.cls, T.no, by decide, ?_⟩
        rw [← pair_len pr, List.take_length] at pp
        have nat : t ≠ a := (ne_of_none hY nt).symm
        refine q bs (Nat.le_of_not_lt l10) pr vb t ws _ upd_same (by rw [upd_ne nat]; exact upd_same) (L2.Paired.mapP pp fun _ _ z => (z.same sT).but (fun xs e => by rw [sT _ _ hY] at e; cases e) but_upd) (But.same_put (pY.trans sT))
  · refine ⟨_, rfl, p, [], rfl, SqT.of hp, for_it (XE.walk_enumT (K := K) (a := p) (xs := [])) (fun i σ X => (∃ x3 x4 x5 x6 : Option V, σ = [some (.ref a), some (.ref t), some (.ref p), x3, x4, x5, x6]) ∧ Same H X) ⟨⟨none, none, none, none, rfl⟩, fun _ _ e => e⟩ (fun i σ X _ pw => SqT.of (pw.2 _ _ hp)) (fun i x σ X X' hi pw yl => absurd hi (Nat.not_lt_zero _)) (fun σ X pw => ?_)⟩
    obtain ⟨⟨x3, x4, x5, x6, rfl⟩, pS⟩ := pw
    refine ⟨_, rfl, p, [], rfl, .inr (SqT.of (pS _ _ hp)), _, _, rfl, rfl, _, rfl, iteF ?_⟩
    refine ⟨_, rfl, rfl, _, rfl, iteF ⟨_, rfl, _, rfl, a, C, dx, [], rfl, pS _ _ ha, T.cls, T.no, by decide, ?_⟩⟩
    exact q _ upd_same (But.same_put pS)
end
end LA
end
section
set_option Elab.async false
set_option linter.all false
set_option maxRecDepth 100000
set_option maxHeartbeats 4100000
namespace LA
open PySem L2 XS XT LM XK LamX XV
section
variable {P : Program} {w : World} {K : PySem.W.Frag} {mg : Str → Option Value} {base : Heap} {C DB DM DR DX : Addr}
def spBlks (C : Addr) : Sp := fun vs H Q _ => ∃ (a dx : Addr) (v : V), vs = [.ref a] ∧ H a = some (.ins C dx [("_blocks", v)]) ∧ Q v H
theorem scLb : FnScope ["self"] ["self"] (defScope sLblk) := ⟨rfl, rfl, rfl, by decide +kernel, rfl, by decide +kernel, by decide +kernel⟩
theorem ok_blks {f : Addr} {fd : FuncData} (F : Fun K "blocks" "LongText.blocks" sLblk f fd) (T : KLg K C) : FnOk P w K mg base CX0 1 f fd ["self"] (spBlks C) := by
  refine F.ok scLb (fun vs H Q E h => ?_) (fun cdv A outer s H vs Q E hr h => ?_)
  · obtain ⟨a, dx, v, rfl, _⟩ := h
    rfl
  · obtain ⟨a, dx, v, rfl, ha, q⟩ := h
    refine ⟨_, pss_one (by exact (ps_ret (pe_fld (pv 0) rfl))), ?_⟩
    exact ⟨_, rfl, a, C, dx, _, v, rfl, ha, T.cls, T.no, look0, q⟩
def spLLen (C : Addr) : Sp := fun vs H Q _ => ∃ (bs : List (Bk Str)) (v : V), vs = [v] ∧ LT C H bs v ∧ Rb bs ∧ ∀ H', Same H H' → Q (.int ((wr bs).length : Int)) H'
theorem scLl : FnScope ["self"] ["self"] (defScope sLlen) := ⟨rfl, rfl, rfl, by decide +kernel, rfl, by decide +kernel, by decide +kernel⟩
theorem ok_llen {f f1 : Addr} {fd fd1 : FuncData} (F : Fun K "length" "LongText.length" sLlen f fd) (T : KLg K C) (LO : CallOf P w K mg base 1 "length_of" ["blocks"] spLenOf f1 fd1) : FnOk P w K mg base CX0 2 f fd ["self"] (spLLen C) := by
  refine F.ok scLl (fun vs H Q E h => ?_) (fun cdv A outer s H vs Q E hr h => ?_)
  · obtain ⟨bs, v, rfl, _⟩ := h
    rfl
  · obtain ⟨bs, v, rfl, ⟨a, dx, t, us, rfl, ha, ht, pr⟩, rb, q⟩ := h
    refine ⟨_, pss_one (by exact (ps_ret (pe_call LO.ok hr rfl LO.m LO.k LO.b .nil pass0 (pa_cons (pe_fld (pv 0) rfl) pa_nil)))), ?_⟩
    exact ⟨_, rfl, a, C, dx, _, _, rfl, ha, T.cls, T.no, look0, t, us, bs, rfl, ht, pr, rb.ok, by have := rb.few; omega, q⟩
abbrev spIP (C DB DM : Addr) : List V → List V → Hp → VK → XK → Prop := fun vs _ H Q E => ∃ v0 rest, vs = v0 :: rest ∧ rest.length ≤ 1000 ∧ ∀ p, H p = none → spIB C DB DM [v0, .non, .ref p] (upd H p (.tup rest)) Q E
abbrev spIK (C DB DM : Addr) : List V → List V → Hp → VK → XK → Prop := fun vs zs H Q E => ∃ v0 y, vs = [v0] ∧ zs = [y] ∧ ∀ p, H p = none → spIB C DB DM [v0, y, .ref p] (upd H p (.tup [])) Q E
theorem ok_initP {f D f1 : Addr} {fd1 : FuncData} {tk1 : Tok} (F : FunV K f D) (T : KLg K C) (EB : Err1 K mg "InvalidBlock" "index" DB) (EM : Err1 K mg "TooMany" "limit" DM) (mE : mg "enumerate" = none) (mL : mg "len" = none) (mT : mg "tuple" = none) (m10 : mg "MAX_BLOCKS" = some (.int 10 tk1)) (IB : CallOf P w K mg base 4 "is_block" ["value"] (spQ blkD) f1 fd1) :
    FnV P w K mg base (L2.CX P w) 5 f [] (spIP C DB DM) := by
  obtain ⟨oc, od, doc, pm, an, cdv, ct, osl, lk, hcd⟩ := F.ex
  refine fn_vpos (d := .none) (vd := .non) lk hcd scLI StX.cxUp F.dd rfl (by decide) (fun u0 us hl => ?_) (fun A outer s H vs Q E hr h => body_LI T EB EM mE mL mT m10 IB hr h)
  cases us with
  | nil => exact ⟨_, _, _, _, _, _, rfl, rfl, rfl⟩
  | cons u us => exact ⟨_, _, _, _, _, _, rfl, rfl, rfl⟩
theorem ok_initK {f D f1 : Addr} {fd1 : FuncData} {tk1 : Tok} (F : FunV K f D) (T : KLg K C) (EB : Err1 K mg "InvalidBlock" "index" DB) (EM : Err1 K mg "TooMany" "limit" DM) (mE : mg "enumerate" = none) (mL : mg "len" = none) (mT : mg "tuple" = none) (m10 : mg "MAX_BLOCKS" = some (.int 10 tk1)) (IB : CallOf P w K mg base 4 "is_block" ["value"] (spQ blkD) f1 fd1) :
    FnV P w K mg base (L2.CX P w) 5 f ["_blocks"] (spIK C DB DM) := by
  obtain ⟨oc, od, doc, pm, an, cdv, ct, osl, lk, hcd⟩ := F.ex
  exact fn_vkey lk hcd scLI StX.cxUp (fun u0 d => rfl) (fun A outer s H vs Q E hr h => body_LI T EB EM mE mL mT m10 IB hr h)
/-- + -/
def spPlus (C : Addr) : Sp := fun vs H Q _ => ∃ (bs cs : List (Bk Str)) (v u : V), vs = [v, u] ∧ LT C H bs v ∧ LT C H cs u ∧ bs.length + cs.length ≤ 1000 ∧ ∀ (z : V) (H' : Hp), LT C H' (bs ++ cs) z → Same H H' → Q z H'
theorem scLa : FnScope ["self", "other"] ["self", "other"] (defScope sLadd) := ⟨rfl, rfl, rfl, by decide +kernel, rfl, by decide +kernel, by decide +kernel⟩
theorem made_of {H X : Hp} {x dx t : Addr} {bs : List (Bk Str)} {ws : List V} (s : Same H X) (nx : X x = none) (nd : X dx = none) (ht : H t = some (.tup ws)) (pr : Paired (fun b v => BkT H b v) bs ws) {p : Addr} {H' : Hp} (np : upd (upd X dx (.own x)) x (.ins C dx []) p = none) (hx : H' x = some (.ins C dx [("_blocks", .ref t)])) (b : But x (upd (upd (upd X dx (.own x)) x (.ins C dx [])) p (.tup [])) H') : LT C H' bs (.ref x) ∧ Same H H' := by
  have s2 : Same H H' := fun c o e => by
    have e2 := s _ _ e
    have n1 := ne_of_none e2 nx
    have n2 := ne_of_none e2 nd
    have e3 : upd (upd X dx (.own x)) x (.ins C dx []) c = some o := by rw [upd_ne n1, upd_ne n2]; exact e2
    refine b _ _ ?_ n1
    rw [upd_ne (ne_of_none e3 np)]
    exact e3
  exact ⟨⟨x, dx, t, ws, rfl, hx, s2 _ _ ht, bkT_same s2 pr⟩, s2⟩
/-- cls(_blocks=t) -/
theorem key_made {H : Hp} {t : Addr} {ws : List V} {bs : List (Bk Str)} {Q : VK} {E : XK} {x d : Addr} (ht : H t = some (.tup ws)) (pr : Paired (fun b v => BkT H b v) bs ws) (nx : H x = none) (nd : H d = none) (q : ∀ (z : V) (H' : Hp), LT C H' bs z → Same H H' → Q z H') :
    spIK C DB DM [.ref x] [.ref t] (upd (upd H d (.own x)) x (.ins C d [])) (fun v H3 => v = .non ∧ Q (.ref x) H3) E := by
  refine ⟨_, _, rfl, rfl, fun p np => ⟨x, d, p, _, rfl, ?_, .inr ⟨t, rfl, upd_same, fun H' hx bt => ⟨rfl, ?_⟩⟩⟩⟩
  · rw [upd_ne (ne_of_none upd_same np)]
    exact upd_same
  · obtain ⟨lt, s2⟩ := made_of (fun _ _ e => e) nx nd ht pr np hx bt
    exact q _ _ lt s2
theorem ok_plus {f fI f2 p2 : Addr} {fd fd2 : FuncData} (F : Fun K "__add__" "LongText.__add__" sLadd f fd) (T : KLg K C) (mC : mg "LongText" = some (.ref C)) (M : Mk K C fI) (IK : FnV P w K mg base (L2.CX P w) 5 fI ["_blocks"] (spIK C DB DM))
    (PB : PropOf K C "blocks" p2 f2) (BL : FnOk P w K mg base CX0 1 f2 fd2 ["self"] (spBlks C)) (bB : Binds K fd2 ["self"] []) : FnOk P w K mg base CX0 7 f fd ["self", "other"] (spPlus C) := by
  refine F.ok scLa (fun vs H Q E h => ?_) (fun cdv A outer s H vs Q E hr h => ?_)
  · obtain ⟨bs, cs, v, u, rfl, _⟩ := h
    rfl
  · obtain ⟨bs, cs, v, u, rfl, ⟨a, dx, t, us, rfl, ha, ht, pr⟩, ⟨b, dy, t2, us2, rfl, hb, ht2, pr2⟩, few, q⟩ := h
    have hr1 : Room 2 _ := hr.mono (by decide)
    refine ⟨_, pss_one (by exact (ps_ret (pe_makeVK M IK hr rfl mC passN (pk_cons (pe_op op_catA (pe_fld (pv 0) rfl) (pe_prop (pv 1) T.cls PB BL hr1 bB .nil pass0 rfl)) pk_nil)))), ?_⟩
    have l1 := pair_len pr
    have l2 := pair_len pr2
    refine ⟨_, rfl, a, C, dx, _, _, rfl, ha, T.cls, T.no, look0, _, rfl, b, dy, _, rfl, hb, b, dy, _, rfl, hb, t, t2, us, us2, rfl, rfl, SqT.of ht, SqT.of ht2, ?_, fun e => ?_, fun e1 e2 => ?_, fun e1 e2 p np => ?_⟩
    · exact Nat.le_trans (by omega) (by decide : 1000 ≤ sizeLine)
    · subst e
      have eb : bs = [] := List.eq_nil_of_length_eq_zero l1
      subst eb
      exact ⟨rfl, fun x d nx nd ne => key_made ht2 pr2 nx nd q⟩
    · subst e2
      have ec : cs = [] := List.eq_nil_of_length_eq_zero l2
      subst ec
      exact ⟨rfl, fun x d nx nd ne => key_made ht (by rw [List.append_nil]; exact pr) nx nd q⟩
    · have sP := same_upd (o := .tup (us ++ us2)) np
      exact ⟨rfl, fun x d nx nd ne => key_made upd_same (bkT_same sP (pair_app pr pr2)) nx nd fun z H' lt s2 => q z H' lt (sP.trans s2)⟩
/-- check_text -/
def spChk (DX : Addr) : Sp := fun vs H Q E => ∃ (N : Addr → Prop) (x : V) (d : PyData), vs = [x] ∧ Dz N H x d ∧ (txtD d = true → ∀ H', Same H H' → Q .non H') ∧ (txtD d = false → Refz DX "value" x H E)
theorem scCk : FnScope ["value"] ["value"] (defScope sChkT) := ⟨rfl, rfl, rfl, by decide +kernel, rfl, by decide +kernel, by decide +kernel⟩
theorem ok_chk {f f1 : Addr} {fd fd1 : FuncData} (F : Fun K "check_text" "check_text" sChkT f fd) (EX : Err1 K mg "InvalidText" "value" DX) (M : CallOf P w K mg base 3 "is_text" ["value"] (spQ txtD) f1 fd1) : FnOk P w K mg base (L2.CX P w) 4 f fd ["value"] (spChk DX) := by
  refine F.okX scCk (fun vs H Q E h => ?_) (fun cdv A outer s H vs Q E hr h => ?_)
  · obtain ⟨N, x, d, rfl, _⟩ := h
    rfl
  · obtain ⟨N, x, d, rfl, hx, q1, q2⟩ := h
    refine ⟨_, pss_one (by exact (ps_if (pt_not (pt_val (pe_call M.ok hr rfl M.m M.k M.b .nil pass0 (pa_cons (pv 0) pa_nil)))) (pss_one (ps_raise rfl (takes_of rfl rfl rfl rfl) (pmk_ex1 EX.T EX.J EX.ty hr EX.m (by decide) (pa_cons (pv 0) pa_nil)))) pss_nil)), ?_⟩
    refine ⟨_, rfl, N, x, d, rfl, hx, fun H' s => ⟨_, rfl, ?_⟩⟩
    cases e : txtD d with
    | true => exact iteF (q1 e H' s)
    | false => exact iteT ⟨_, rfl, _, rfl, ((q2 e).later s).now⟩
/-- what LongText.of makes of lines -/
def ofB (rs : List Str) : List (Bk Str) := if rs.isEmpty = true then [] else [(rs, 1)]
theorem wr_ofB (rs : List Str) : wr (ofB rs) = rs := by
  unfold ofB
  cases rs with
  | nil => rfl
  | cons z r =>
    rw [if_neg (by simp), wr_cons, wr_nil, List.append_nil, one_one]
def spOf (C DX : Addr) : Sp := fun vs H Q E => ∃ (N : Addr → Prop) (x : V) (d : PyData), vs = [.ref C, x] ∧ Dz N H x d ∧ (txtD d = false → Refz DX "value" x H E) ∧
  (∀ rs : List Str, itemsD d = some (rs.map PyData.str) → (∀ z ∈ rs, lineB z = true ∧ z.length ≤ 30) → ∀ (z : V) (H' : Hp), LT C H' (ofB rs) z → Same H H' → Q z H')
theorem scOf : FnScope ["cls", "text"] ["cls", "text"] (defScope sLof) := ⟨rfl, rfl, rfl, by decide +kernel, rfl, by decide +kernel, by decide +kernel⟩
theorem ok_of {f fI f1 : Addr} {fd fd1 : FuncData} (F : Fun K "of" "LongText.of" sLof f fd) (M : Mk K C fI) (mT : mg "tuple" = none) (IK : FnV P w K mg base (L2.CX P w) 5 fI ["_blocks"] (spIK C DB DM)) (mCK : mg "check_text" = some (.ref f1)) (kCK : PySem.W.keepIn K (.ref f1) = true) (CK : FnOk P w K mg base (L2.CX P w) 4 f1 fd1 ["value"] (spChk DX)) (bCK : Binds K fd1 ["value"] []) :
    FnOk P w K mg base (L2.CX P w) 7 f fd ["cls", "text"] (spOf C DX) := by
  refine F.okX scOf (fun vs H Q E h => ?_) (fun cdv A outer s H vs Q E hr h => ?_)
  · obtain ⟨N, x, d, rfl, _⟩ := h
    rfl
  · obtain ⟨N, x, d, rfl, hx, qx, q⟩ := h
    have hr4 : Room 4 _ := hr.mono (by decide)
    refine ⟨_, pss_cons (by exact (ps_expr (pe_call CK hr4 rfl mCK kCK bCK .nil (passes_call (takes_of rfl rfl rfl rfl) (fun _ _ _ _ h => h)) (pa_cons (pv 1) pa_nil)))) (
      pss_one (by exact (ps_ret (pe_makeVKn M IK hr (pv 0) passN (pk_cons (pe_ifExp (pt_truth (pv 1) (fun _ => rfl)) (pe_tup (pa_cons (pe_tup (pa_cons (pe_tupleOf rfl mT (pv 1)) (pa_cons pe_int pa_nil))) pa_nil)) (pe_tup pa_nil)) pk_nil))))), ?_⟩
    refine ⟨_, rfl, N, x, d, rfl, hx, fun et H1 s1 => ?_, qx⟩
    unfold txtD at et
    cases ei : itemsD d with
    | none =>
      rw [ei] at et
      cases et
    | some es =>
      rw [ei] at et
      obtain ⟨a, o, xs, rfl, _, ha, ho, few, rx⟩ := (hx.same s1).items ei
      obtain ⟨rs, rfl, rfl, ok⟩ := rx.strs et
      have qq := q rs ei ok
      refine ⟨_, rfl, rfl, _, rfl, !(rs.map V.str).isEmpty, ?_, ?_⟩
      · rcases ho with rfl | rfl
        · exact .inl ⟨_, SqL.of ha, rfl⟩
        · exact .inr (.inl ⟨_, SqT.of ha, rfl⟩)
      · cases rs with
        | nil =>
          refine iteF ⟨(by show 0 ≤ sizeLine; decide), fun p np => ⟨rfl, fun x d nx nd ne => ?_⟩⟩
          have sP := same_upd (o := .tup []) np
          exact key_made upd_same .nil nx nd fun z H' lt s2 => qq z H' lt ((s1.trans sP).trans s2)
        | cons r0 rr =>
          have last : ∀ (p1 : Addr) (X : Hp), Same H X → X p1 = some (.tup ((r0 :: rr).map V.str)) → ∀ p2, X p2 = none → ∀ p3, upd X p2 (.tup [.ref p1, .int 1]) p3 = none → ∀ x d, upd (upd X p2 (.tup [.ref p1, .int 1])) p3 (.tup [.ref p2]) x = none → upd (upd X p2 (.tup [.ref p1, .int 1])) p3 (.tup [.ref p2]) d = none →
              spIK C DB DM [.ref x] [.ref p3] (upd (upd (upd (upd X p2 (.tup [.ref p1, .int 1])) p3 (.tup [.ref p2])) d (.own x)) x (.ins C d [])) (fun v H3 => v = .non ∧ Q (.ref x) H3) E0 := by
            intro p1 X sX h1 p2 n2 p3 n3 x d nx nd
            have s2 := same_upd (o := .tup [.ref p1, .int 1]) n2
            have s3 := same_upd (o := .tup [.ref p2]) n3
            refine key_made (bs := [(r0 :: rr, 1)]) upd_same (.cons ⟨p2, p1, rfl, s3 _ _ upd_same, (s2.trans s3) _ _ h1⟩ .nil) nx nd fun z H' lt s4 => qq z H' lt ((sX.trans (s2.trans s3)).trans s4)
          rcases ho with rfl | rfl
          · refine iteT ⟨_, rfl, .inl ⟨a, _, rfl, SqL.of ha, fun p1 n1 => ⟨(by show 2 ≤ sizeLine; decide), fun p2 n2 => ⟨(by show 1 ≤ sizeLine; decide), fun p3 n3 => ⟨rfl, fun x d nx nd ne => ?_⟩⟩⟩⟩⟩
            exact last p1 _ (s1.trans (same_upd n1)) upd_same p2 n2 p3 n3 x d nx nd
          · refine iteT ⟨_, rfl, .inr ⟨a, _, rfl, SqT.of ha, ⟨(by show 2 ≤ sizeLine; decide), fun p2 n2 => ⟨(by show 1 ≤ sizeLine; decide), fun p3 n3 => ⟨rfl, fun x d nx nd ne => ?_⟩⟩⟩⟩⟩
            exact last a _ s1 ha p2 n2 p3 n3 x d nx nd
/-- line_at -/
def spLineAt (C DR : Addr) : Sp := fun vs H Q E => ∃ (bs : List (Bk Str)) (v : V) (N : Addr → Prop) (x : V) (d : PyData), vs = [v, x] ∧ LT C H bs v ∧ Rb bs ∧ Dz N H x d ∧ (numD d 1 ((wr bs).length : Int) = false → Refz DR "value" x H E) ∧
  (∀ (n : Nat) (z : Str), d = .int ((n : Int) + 1) → (wr bs)[n]? = some z → ∀ H', Same H H' → Q (.str z) H')
theorem scLA : FnScope ["self", "number"] ["self", "number"] (defScope sLat) := ⟨rfl, rfl, rfl, by decide +kernel, rfl, by decide +kernel, by decide +kernel⟩
theorem numD_int {d : PyData} {l g : Int} (h : numD d l g = true) : ∃ k, d = .int k ∧ l ≤ k ∧ k ≤ g := by
  cases d with
  | int k =>
    have h : (decide (l ≤ k) && decide (k ≤ g)) = true := h
    rw [Bool.and_eq_true] at h
    exact ⟨k, rfl, of_decide_eq_true h.1, of_decide_eq_true h.2⟩
  | _ => cases h
theorem ok_lineAt {f f1 f2 f3 p1 : Addr} {fd fd1 fd2 fd3 : FuncData} (F : Fun K "line_at" "LongText.line_at" sLat f fd) (T : KLg K C) (ER : Err1 K mg "OutOfRange" "value" DR) (NU : CallOf P w K mg base 2 "is_number" ["value", "least", "greatest"] spNum f1 fd1) (LI : CallOf P w K mg base 3 "line_at_index" ["blocks", "index"] spLineI f2 fd2)
    (PL : PropOf K C "length" p1 f3) (LL : FnOk P w K mg base CX0 2 f3 fd3 ["self"] (spLLen C)) (bL : Binds K fd3 ["self"] []) : FnOk P w K mg base (L2.CX P w) 4 f fd ["self", "number"] (spLineAt C DR) := by
  refine F.okX scLA (fun vs H Q E h => ?_) (fun cdv A outer s H vs Q E hr h => ?_)
  · obtain ⟨bs, v, N, x, d, rfl, _⟩ := h
    rfl
  · obtain ⟨bs, v, N, x, d, rfl, lt, rb, hx, q1, q2⟩ := h
    have hr2 : Room 2 _ := hr.mono (by decide)
    have hr3 : Room 3 _ := hr.mono (by decide)
    refine ⟨_, pss_cons (by exact (ps_if (pt_not (pt_val (pe_call NU.ok hr2 rfl NU.m NU.k NU.b .nil pass0 (pa_cons (pv 1) (pa_cons pe_int (pa_cons (pe_prop (pv 0) T.cls PL LL hr3 bL .nil pass0 rfl) pa_nil)))))) (pss_one (ps_raise rfl (takes_of rfl rfl rfl rfl) (pmk_ex1 ER.T ER.J ER.ty hr ER.m (by decide) (pa_cons (pv 1) pa_nil)))) pss_nil)) (
      pss_one (by exact (ps_ret (pe_call LI.ok hr rfl LI.m LI.k LI.b .nil pass0 (pa_cons (pe_fld (pv 0) rfl) (pa_cons (pe_op op_sub (pv 1) pe_int) pa_nil)))))), ?_⟩
    have lt0 := lt
    obtain ⟨a, dx, t, us, rfl, ha, ht, pr⟩ := lt
    refine ⟨_, rfl, _, rfl, a, dx, _, rfl, ha, bs, _, rfl, lt0, rb, fun H1 s1 => ⟨N, x, d, 1, _, rfl, hx.same s1, fun H2 s2 => ⟨_, rfl, ?_⟩⟩⟩
    have s3 := s1.trans s2
    cases e : numD d 1 ((wr bs).length : Int) with
    | false => exact iteT ⟨_, rfl, _, rfl, ((q1 e).later s3).now⟩
    | true =>
      obtain ⟨k, rfl, k1, k2⟩ := numD_int e
      obtain ⟨n, rfl⟩ : ∃ n : Nat, k = (n : Int) + 1 := ⟨(k - 1).toNat, by omega⟩
      have hn : n < (wr bs).length := by omega
      obtain rfl := hx.int_ (k := (n : Int) + 1) rfl
      refine iteF ⟨_, rfl, a, C, dx, _, _, rfl, s3 _ _ ha, T.cls, T.no, look0, _, rfl, _, _, rfl, rfl, t, us, bs, n, _, ?_, s3 _ _ ht, bkT_same s3 pr, rb.ok, by have := rb.few; omega, List.getElem?_eq_getElem hn, fun H3 s4 => q2 n _ rfl (List.getElem?_eq_getElem hn) H3 (s3.trans s4)⟩
      show [V.ref t, V.int ((n : Int) + 1 - 1)] = _
      rw [Int.add_sub_cancel]
/-- part -/
def spPart (C DR : Addr) : Sp := fun vs H Q E => ∃ (bs : List (Bk Str)) (v : V) (N : Addr → Prop) (x : V) (d : PyData) (M : Addr → Prop) (y : V) (e : PyData), vs = [v, x, y] ∧ LT C H bs v ∧ Rb bs ∧ Dz N H x d ∧ Dz M H y e ∧ (numD d 1 ((wr bs).length : Int) = false → Refz DR "value" x H E) ∧
  (∀ k, d = .int k → numD d 1 ((wr bs).length : Int) = true → numD e k (min ((wr bs).length : Int) (k + 999)) = false → Refz DR "value" y H E) ∧
  (∀ (n g : Nat), d = .int ((n : Int) + 1) → e = .int (g : Int) → n < g → g ≤ (wr bs).length → g ≤ n + 1000 → ∀ (p : Addr) (H' : Hp), H' p = some (.lst ((((wr bs).take g).drop n).map V.str)) → H p = none → Same H H' → Q (.ref p) H')
theorem scLP : FnScope ["self", "first", "last"] ["self", "first", "last"] (defScope sLpart) := ⟨rfl, rfl, rfl, by decide +kernel, rfl, by decide +kernel, by decide +kernel⟩
theorem ok_part {f f1 f2 f3 f4 p1 : Addr} {fd fd1 fd2 fd3 fd4 : FuncData} {tk : Tok} (F : Fun K "part" "LongText.part" sLpart f fd) (T : KLg K C) (ER : Err1 K mg "OutOfRange" "value" DR) (mM : mg "min" = none) (m1000 : mg "MOST_LINES" = some (.int 1000 tk)) (NU : CallOf P w K mg base 2 "is_number" ["value", "least", "greatest"] spNum f1 fd1) (CU : CallOf P w K mg base 2 "cut" ["blocks", "low", "high"] spCut f2 fd2) (WR : CallOf P w K mg base 1 "written_out" ["blocks"] spWrit f4 fd4)
    (PL : PropOf K C "length" p1 f3) (LL : FnOk P w K mg base CX0 2 f3 fd3 ["self"] (spLLen C)) (bL : Binds K fd3 ["self"] []) : FnOk P w K mg base (L2.CX P w) 4 f fd ["self", "first", "last"] (spPart C DR) := by
  refine F.okX scLP (fun vs H Q E h => ?_) (fun cdv A outer s H vs Q E hr h => ?_)
  · obtain ⟨bs, v, N, x, d, M, y, e, rfl, _⟩ := h
    rfl
  · obtain ⟨bs, v, N, x, d, M, y, e, rfl, lt, rb, hx, hy, q1, q2, q3⟩ := h
    have hr2 : Room 2 _ := hr.mono (by decide)
    have hr1 : Room 1 _ := hr.mono (by decide)
    have hr3 : Room 3 _ := hr.mono (by decide)
    refine ⟨_, pss_cons (by exact (ps_if (pt_not (pt_val (pe_call NU.ok hr2 rfl NU.m NU.k NU.b .nil pass0 (pa_cons (pv 1) (pa_cons pe_int (pa_cons (pe_prop (pv 0) T.cls PL LL hr3 bL .nil pass0 rfl) pa_nil)))))) (pss_one (ps_raise rfl (takes_of rfl rfl rfl rfl) (pmk_ex1 ER.T ER.J ER.ty hr ER.m (by decide) (pa_cons (pv 1) pa_nil)))) pss_nil)) (
      pss_cons (by exact (ps_if (pt_not (pt_val (pe_call NU.ok hr2 rfl NU.m NU.k NU.b .nil pass0 (pa_cons (pv 2) (pa_cons (pv 1) (pa_cons (pe_callB (call_min2 rfl) (by rfl) mM (by decide +kernel) (pa_cons (pe_prop (pv 0) T.cls PL LL hr3 bL .nil pass0 rfl) (pa_cons (pe_op op_sub (pe_op op_add (pv 1) (pe_glob (v := .int 1000) rfl m1000 ⟨_, rfl⟩)) pe_int) pa_nil))) pa_nil)))))) (pss_one (ps_raise rfl (takes_of rfl rfl rfl rfl) (pmk_ex1 ER.T ER.J ER.ty hr ER.m (by decide) (pa_cons (pv 2) pa_nil)))) pss_nil)) (
      pss_one (by exact (ps_ret (pe_call WR.ok hr1 rfl WR.m WR.k WR.b .nil pass0 (pa_cons (pe_call CU.ok hr2 rfl CU.m CU.k CU.b .nil pass0 (pa_cons (pe_fld (pv 0) rfl) (pa_cons (pe_op op_sub (pv 1) pe_int) (pa_cons (pv 2) pa_nil)))) pa_nil)))))), ?_⟩
    have lt0 := lt
    obtain ⟨a, dx, t, us, rfl, ha, ht, pr⟩ := lt
    refine ⟨_, rfl, _, rfl, a, dx, _, rfl, ha, bs, _, rfl, lt0, rb, fun H1 s1 => ⟨N, x, d, 1, _, rfl, hx.same s1, fun H2 s2 => ⟨_, rfl, ?_⟩⟩⟩
    have s3 := s1.trans s2
    cases e1 : numD d 1 ((wr bs).length : Int) with
    | false => exact iteT ⟨_, rfl, _, rfl, ((q1 e1).later s3).now⟩
    | true =>
      obtain ⟨k, rfl, k1, k2⟩ := numD_int e1
      obtain rfl := hx.int_ (k := k) rfl
      refine iteF ⟨_, rfl, _, rfl, _, rfl, a, dx, _, rfl, s3 _ _ ha, bs, _, rfl, lt0.same s3, rb, fun H3 s4 => ⟨_, rfl, _, _, rfl, rfl, _, _, rfl, rfl, _, _, rfl, M, y, e, k, min ((wr bs).length : Int) (k + 999), ?_, hy.same (s3.trans s4), fun H4 s5 => ⟨_, rfl, ?_⟩⟩⟩
      · show [y, V.int k, V.int (if k + 1000 - 1 < ((wr bs).length : Int) then k + 1000 - 1 else ((wr bs).length : Int))] = _
        have em : (if k + 1000 - 1 < ((wr bs).length : Int) then k + 1000 - 1 else ((wr bs).length : Int)) = min ((wr bs).length : Int) (k + 999) := by split <;> omega
        rw [em]
      · have s6 := (s3.trans s4).trans s5
        cases e2 : numD e k (min ((wr bs).length : Int) (k + 999)) with
        | false => exact iteT ⟨_, rfl, _, rfl, ((q2 k rfl e1 e2).later s6).now⟩
        | true =>
          obtain ⟨g, rfl, g1, g2⟩ := numD_int e2
          obtain rfl := hy.int_ (k := g) rfl
          obtain ⟨n, rfl⟩ : ∃ n : Nat, k = (n : Int) + 1 := ⟨(k - 1).toNat, by omega⟩
          obtain ⟨m, rfl⟩ : ∃ m : Nat, g = (m : Int) := ⟨g.toNat, by omega⟩
          refine iteF ⟨_, rfl, a, C, dx, _, _, rfl, s6 _ _ ha, T.cls, T.no, look0, _, rfl, _, _, rfl, rfl, _, rfl, t, us, bs, n, m, ?_, s6 _ _ ht, bkT_same s6 pr, rb.ok, by have := rb.few; omega, by omega, fun p ws cs H5 hp pp pw pv0 s7 => ?_⟩
          · show [V.ref t, V.int ((n : Int) + 1 - 1), V.int (m : Int)] = _
            rw [Int.add_sub_cancel]
          · refine ⟨p, ws, cs, rfl, hp, pp, pv0, ?_, fun p2 H6 hp2 n2 s8 => ?_⟩
            · rw [pw, List.length_drop, List.length_take]
              omega
            · rw [pw] at hp2
              exact q3 n m rfl rfl (by omega) (by omega) (by omega) p2 H6 hp2 ((s6.trans s7).free n2) ((s6.trans s7).trans s8)
end
end LA
end
section
set_option Elab.async false
set_option linter.all false
set_option maxRecDepth 100000
set_option maxHeartbeats 4100000
namespace XL
open PySem PySem.Spec PyProof.Rows L2 LamX XK
/-! ### what a def's cells hold, told of any later heap -/
structure Caps (X : Cx) (σ : L2.St) (H : Hp) (h : Heap) : Prop where
  ok : X.Ok
  len : σ.length = X.N.length
  cell : ∀ y c, X.env.cells.lookup y = some c → (∃ v, h.IsCell c v) ∧ H c = none
  val : ∀ (i : Nat) (y : Str) (v : V), X.N[i]? = some y → σ[i]? = some (some v) → Vis X.env.scope y → X.env.scope.names.lookup y ≠ some .local → ∃ u c, RelV v u ∧ X.env.cells.lookup y = some c ∧ h.IsCell c (some u)
section
variable {X : Cx} {pins : List (Addr × Obj)} {σ : L2.St} {H H' : Hp} {s : Shared} {h h' : Heap}
theorem Caps.of (I : Inv X pins σ H s) : Caps X σ H s.heap := by
  refine ⟨I.ok, I.len, fun y c e => ⟨I.cell y c e, I.freeC y c e⟩, fun i y v e1 e2 vis nl => ?_⟩
  obtain ⟨m, _, tell⟩ := I.loc
  obtain ⟨u, r, q⟩ := tell i y v e1 e2 vis
  cases q with
  | inl z => exact absurd z.1 nl
  | inr z =>
    obtain ⟨_, c, e, ic⟩ := z
    exact ⟨u, c, r, e, ic⟩
theorem Caps.go {fs ex : List Addr} (C : Caps X σ H h) (un : Un fs ex H H' h h') (out : ∀ y c, X.env.cells.lookup y = some c → c ∉ ex) : Caps X σ H' h' := by
  have stays : ∀ y c v, X.env.cells.lookup y = some c → h.IsCell c v → h'.IsCell c v := fun y c v e ⟨o, ho, hd⟩ => by
    obtain ⟨sl, q⟩ := un.any ho (C.cell y c e).2 (out y c e)
    exact ⟨_, q, hd⟩
  refine ⟨C.ok, C.len, fun y c e => ?_, fun i y v e1 e2 vis nl => ?_⟩
  · obtain ⟨⟨v, ic⟩, n⟩ := C.cell y c e
    have ⟨o, ho, _⟩ := ic
    exact ⟨⟨v, stays y c v e ic⟩, un.free c o ho n (out y c e)⟩
  · obtain ⟨u, c, r, e, ic⟩ := C.val i y v e1 e2 vis nl
    exact ⟨u, c, r, e, stays y c _ e ic⟩
/-- the lambda's body begins -/
theorem Caps.start {A : Around} {outer : List Env} {E : XK} {scope : Scope} {f c' : Addr} {h₁ : Heap} {tk : Nat} (C : Caps X σ H s.heap) (L : LamS X.env.scope scope) (e0 : Env0 X.prog X.w X.K X.mg X.base A outer s H) (calm : A.handled = none)
    (new : h₁.Ns s.heap.objs.size fun y => ([] : List (Str × Value)).reverse.lookup y) (kp : ∀ b o, s.heap.get? b = some o → h₁.get? b = some o) :
    Inv (lamCx X A outer s H E scope f c') [] σ H { s with heap := h₁, toks := tk } := by
  have up : ∀ {y c}, (cloFrom X.env.cells scope.names []).lookup y = some c → X.env.cells.lookup y = some c ∧ (y, NameKind.free) ∈ scope.names := fun {y c} e => by
    rcases cloFrom_mem (PySem.mem_of_lookup e) with z | ⟨z1, z2⟩
    · cases z
    · obtain ⟨c1, k⟩ := L.has C.ok _ z1 rfl
      refine ⟨?_, z1⟩
      have k : X.env.cells.lookup y = some c1 := k
      have z3 : c = c1 := by rw [z2, k] <;> rfl
      rw [z3]
      exact k
  have down : ∀ {y}, scope.names.lookup y = some .free → ∃ c, (cloFrom X.env.cells scope.names []).lookup y = some c := fun {y} k => mem_lookup (cloFrom_has (cells := X.env.cells) (acc := []) (PySem.mem_of_lookup k))
  have cK : ∀ {c v}, s.heap.IsCell c v → h₁.IsCell c v := fun {c v} ⟨o, a, b⟩ => ⟨o, kp _ _ a, b⟩
  have none_ : ∀ b : Addr, b ∉ (lamCx X A outer s H E scope f c').ex := fun b z => absurd (show b ∈ ([] : List Addr) from z) (by simp)
  have nocell : ∀ {y}, scope.names.lookup y ≠ some .cell := fun {y} k => (L.own _ (PySem.mem_of_lookup k)).2 rfl
  have nolocal : ∀ {y}, scope.names.lookup y ≠ some .local := fun {y} k => (L.own _ (PySem.mem_of_lookup k)).1 rfl
  refine ⟨⟨e0.mod, L.kind, rfl, rfl, Nat.le_refl _, fun y z c a b => C.ok.inj y z c (up a).1 (up b).1, fun y hy => ?_, fun y c z _ => (by cases (show false = true from z)), fun _ => calm, Around.frames_deeper e0.frames, .inr ⟨rfl, rfl⟩, fun b z => absurd z (none_ b), e0.bs, e0.bsz, fun b _ _ => none_ b,
    fun b z => absurd z (none_ b), e0.funs, e0.frf⟩, rfl, e0.bare, Un.kept kp, ⟨_, new, fun i y v a b vis => ?_⟩, fun y c e => ?_, e0.hok.fresh (Nat.le_refl _), fun y c e => (C.cell y c (up e).1).2, fun q z => absurd (show q ∈ ([] : List (Addr × Obj)) ++ [] from z) (by simp), e0.hok.kept kp, C.len⟩
  · rcases (show scope.names.lookup y = some .cell ∨ scope.names.lookup y = some .free from hy) with k | k
    · exact absurd k nocell
    · exact down k
  · rcases (show Vis scope y from vis) with k | k | k
    · exact absurd k nolocal
    · exact absurd k nocell
    · have mine := L.free _ (PySem.mem_of_lookup k) rfl
      have nl : X.env.scope.names.lookup y ≠ some .local := fun z => by
        rcases mine with k2 | k2 <;> rw [show X.env.scope.names.lookup y = _ from k2] at z <;> cases z
      obtain ⟨u, c, r, e, ic⟩ := C.val i y v a b (mine.elim (fun k => .inr (.inl k)) fun k => .inr (.inr k)) nl
      obtain ⟨c2, e2⟩ := down k
      obtain rfl : c = c2 := Option.some.inj (e.symm.trans (up e2).1)
      exact ⟨u, r, .inr ⟨.inr k, c, e2, cK ic⟩⟩
  · obtain ⟨⟨v, ic⟩, _⟩ := C.cell y c (up e).1
    exact ⟨v, cK ic⟩
/-- a(), within a def that got the lambda as its slot i: that def was entered at s and H, where the maker's cells are known -/
theorem pe_does {CXg : CXT} {Eg : XK} {Ng : List Str} {qg q : Str} {sg : Scope} {g f : Addr} {cdg : Value} {params : Arguments} {body : Expr} {scope : Scope} {k i : Nat} {a : Str} {pn : List (Addr × Obj)} {xe : Value → Shared → Prop} {W : WX} {E : XK} {tb : TE} {p1 p2 : Pos}
    (C : Caps X σ H s.heap) (L : LamS X.env.scope scope) (eq_ : q = X.env.qual ++ "<lambda>")
    (noargs : ∀ (cl : List (Str × Addr)) (pm cv ctv : Value), bindArgs (PySem.W.kla_fn "<lambda>" q params body scope cl pm cv ctv) ⟨[], []⟩ = pure [])
    (tk : Takes ((cxOf CXg X.prog X.w X.K X.mg X.base Ng qg sg g cdg X.A X.stack s H Eg).tr pn xe) W) (hW : ∀ cls d σ' H', E cls d H' → W cls d σ' H') (room : Room (k + 1) (X.A.deeper (envOfC qg sg s.heap.objs.size g cdg)))
    (does : ∀ (A : Around) (outer : List Env) (s : Shared) (H : Hp) (f c' : Addr), Room k (A.deeper (lamEnv X scope s.heap.objs.size f c')) → PE (lamCx X A outer s H E scope f c') body tb)
    (hN : Ng[i]? = some a) (hv : Vis sg a) (hd : (a == ("__debug__" : Str)) = false := by decide) (hcd : (a == ("__classdict__" : Str)) = false := by decide) :
    PE ((cxOf CXg X.prog X.w X.K X.mg X.base Ng qg sg g cdg X.A X.stack s H Eg).tr pn xe) (.Call (.Name a p1) [] [] p2)
      (fun σZ HZ Q => σZ[i]? = some (some (.ref f)) ∧ IsLam q params body scope (cloFrom X.env.cells scope.names []) HZ f ∧ tb σ HZ Q) := by
  subst eq_
  refine ⟨fun pinsZ sZ σZ HZ Q IZ want => ?_⟩
  obtain ⟨slot, ⟨c', pm, ctv, lf, lc⟩, rd⟩ := want
  refine wpAny_Call_Name_kw (thn ((pe_var (pos := p1) (i := i) hN hv hd hcd).run pinsZ sZ σZ HZ (fun v H1 => v = .ref f ∧ H1 = HZ) IZ ⟨.ref f, slot, rfl, rfl⟩) fun u s1 got => ?_)
  obtain ⟨v, H1, I1, rel, rfl, rfl⟩ := got
  obtain rfl : u = Value.ref f := rel
  have obj : s1.heap.get? f = some (PySem.W.kla_obj "<lambda>" (X.env.qual ++ "<lambda>") params body scope (cloFrom X.env.cells scope.names []) pm c' ctv) := (show ObjOk _ _ H1 s1.heap f (FixO _ f) from I1.hok f _ lf).1
  refine PySem.W.callWith_F0 ⟨_, _, _, _, obj⟩ ?_
  obtain ⟨⟨oc, vs, t, hoc, hdc, hvc⟩, _, _⟩ := I1.hok c' _ lc
  have C1 : Caps X σ H1 s1.heap := C.go I1.base fun _ c _ z => absurd (show c ∈ ([] : List Addr) from z) (by simp)
  have run : codeAny (model X.prog X.w) (X.A.deeper (envOfC qg sg s.heap.objs.size g cdg)) (.call (.ref f) ⟨[], []⟩) (CR (L2.CX X.prog X.w) (envOfC qg sg s.heap.objs.size g cdg :: X.stack) X.prog X.w H1 s1 Q E) s1 := by
    refine PySem.W.kla_callFunE room.depth obj rfl L.co L.gen rfl ⟨c', oc, vs, t, rfl, hoc, hdc, hvc⟩ ?_
    rw [noargs]
    refine wpAny_pure (wpAny_newFunctionEnv (fun y hy => (L.own y hy).2) (fun y hy => absurd hy (by simp)) (fun h₁ hns hsb => ⟨I1.nolimit.fresh _ hsb, ?_⟩) L.kind)
    show codeAny _ _ (.expr body (lamEnv X scope s1.heap.objs.size f c')) _ _
    have kp : ∀ b o, s1.heap.get? b = some o → h₁.get? b = some o := fun b o e => hsb.extBut b o (Nat.ne_of_lt (Heap.lt_size e)) (Heap.get?_push_of_some _ e)
    have J : Inv (lamCx X (X.A.deeper (envOfC qg sg s.heap.objs.size g cdg)) (envOfC qg sg s.heap.objs.size g cdg :: X.stack) s1 H1 E scope f c') [] σ H1 { s1 with heap := h₁, toks := s1.toks + ([] : List (Str × Value)).length } := C1.start L I1.env0 room.hd hns kp
    refine PySem.W.kla_codeExpr (wpAny_mono ((does _ _ s1 H1 _ _ (room.deeper _)).run [] _ _ H1 Q J rd) (fun v s' res => ?_) fun _ _ res => res)
    obtain ⟨y, H', J', rv, q⟩ := res
    exact ⟨y, H', J'.os, J'.bare, J'.base, J'.hok, rv, q⟩
  refine wpAny_call (codeAny_mono run fun r s' res => ?_)
  cases r with
  | error e => exact passes_call (X := (cxOf CXg X.prog X.w X.K X.mg X.base Ng qg sg g cdg X.A X.stack s H Eg).tr pn xe) tk hW pinsZ σZ H1 s1 e s' I1 res
  | ok fl =>
    cases fl with
    | ret u => exact I1.after res
    | next => exact False.elim res
    | brk => exact False.elim res
    | cont => exact False.elim res
end
end XL
end
section
set_option Elab.async false
set_option linter.all false
set_option maxRecDepth 100000
set_option maxHeartbeats 4100000
namespace XL
open PySem PySem.Spec PyProof.Rows L2 LamX XK
/-! ### a def that is handed a lambda and calls it -/
/-- what the def at g makes of a lambda that it gets: TT, of the reading of what the lambda does -/
def Gets (X : Cx) (Ng : List Str) (x : Str) (sg : Scope) (g : Addr) (cdg : Value) (bg : List Stmt) (a : Str) (TT : (XK → Hp → VK → Prop) → Hp → VK → Prop) : Prop :=
  ∀ (LP : Hp → Addr → Prop) (f : Addr) (s : Shared) (H : Hp) (Q : VK) (tl : XK → Hp → VK → Prop),
    (∀ (W : WX) (pn : List (Addr × Obj)) (xe : Value → Shared → Prop) (E : XK) (p1 p2 : Pos), Takes ((cxOf C8.CX0 X.prog X.w X.K X.mg X.base Ng x sg g cdg X.A X.stack s H C8.E0).tr pn xe) W → (∀ cls d σ' H', E cls d H' → W cls d σ' H') →
      PE ((cxOf C8.CX0 X.prog X.w X.K X.mg X.base Ng x sg g cdg X.A X.stack s H C8.E0).tr pn xe) (.Call (.Name a p1) [] [] p2) (fun σZ HZ Q => σZ[0]? = some (some (.ref f)) ∧ LP HZ f ∧ tl E HZ Q)) →
    LP H f → TT tl H Q →
    ∃ t, PSs (cxOf C8.CX0 X.prog X.w X.K X.mg X.base Ng x sg g cdg X.A X.stack s H C8.E0).nox bg t ∧ t { nx := fun _ H' => Q .non H', rt := Q } (L2.start Ng [.ref f]) H
/-- two contexts of one def: alike in all that a call looks at -/
structure Kin (X Y : Cx) : Prop where
  prog : Y.prog = X.prog
  w : Y.w = X.w
  K : Y.K = X.K
  mg : Y.mg = X.mg
  base : Y.base = X.base
  A : Y.A = X.A
  stack : Y.stack = X.stack
theorem Kin.refl (X : Cx) : Kin X X := ⟨rfl, rfl, rfl, rfl, rfl, rfl, rfl⟩
/-- the def that is handed the lambda -/
structure Taker (X : Cx) (x a : Str) (g : Addr) (Ng : List Str) (sg : Scope) (cdv : Value) (bg : List Stmt) (TT : (XK → Hp → VK → Prop) → Hp → VK → Prop) : Prop where
  m : X.mg x = some (.ref g)
  k : PySem.W.keepIn X.K (.ref g) = true
  fn : ∃ (pg : Arguments) (dV kV doc pm ct oc : Value) (an od : Option Addr) (osl : Array (Option Value)),
    X.K.lookup g = some ⟨oc, od, .func (PySem.W.fnOf x x pg bg sg dV kV doc pm an cdv ct), osl⟩ ∧ L2.Binds X.K (PySem.W.fnOf x x pg bg sg dV kV doc pm an cdv ct) [a] []
  cd : PySem.W.codeIn X.K cdv x = true
  S : FnScope Ng [a] sg
  n0 : Ng[0]? = some a
  v0 : Vis sg a
  gets : Gets X Ng x sg g cdv bg a TT
/-- the reading of x(e): e is a lambda, and what x makes of it -/
def tGo (q : Str) (params : Arguments) (body : Expr) (scope : Scope) (cl : List (Str × Addr)) (M : L2.St → L2.St) (TT : (XK → Hp → VK → Prop) → Hp → VK → Prop) (t : XK → TE) (ta : TA) : TE := fun σ H Q =>
  ta σ H fun vs H1 => ∃ f, vs = [.ref f] ∧ IsLam q params body scope cl H1 f ∧ TT (fun E H' Q' => t E (M σ) H' Q') H1 Q
theorem pe_go {X Y : Cx} (kin : Kin X Y) {M : L2.St → L2.St} {x a q : Str} {g : Addr} {Ng : List Str} {sg : Scope} {cdv : Value} {bg : List Stmt} {TT : (XK → Hp → VK → Prop) → Hp → VK → Prop} {params : Arguments} {body : Expr} {scope : Scope} {k : Nat} {t : XK → TE} {e : Expr} {ta : TA} {p pos : Pos}
    (caps : ∀ pins σ H s, Inv Y pins σ H s → Caps X (M σ) H s.heap) (G : Taker X x a g Ng sg cdv bg TT) (L : LamS X.env.scope scope) (eq_ : q = X.env.qual ++ "<lambda>") (room : Room (k + 2) X.A)
    (noargs : ∀ (cl : List (Str × Addr)) (pm cv ctv : Value), bindArgs (PySem.W.kla_fn "<lambda>" q params body scope cl pm cv ctv) ⟨[], []⟩ = pure [])
    (does : ∀ (A : Around) (outer : List Env) (s : Shared) (H : Hp) (E : XK) (f c' : Addr), Room k (A.deeper (lamEnv X scope s.heap.objs.size f c')) → PE (lamCx X A outer s H E scope f c') body (t E))
    (ha : PA Y [e] ta) (hg : Gl Y x) (hdb : (x == ("__debug__" : Str)) = false := by decide) (hd : (a == ("__debug__" : Str)) = false := by decide) (hcd : (a == ("__classdict__" : Str)) = false := by decide)
    (he : starEach [e] Y.env = (false, eval e Y.env) :: starEach [] Y.env := by rfl) (hpl : (backTo pos (starEach [] Y.env)).any (·.1) = false := by rfl) :
    PE Y (.Call (.Name x p) [e] [] pos) (tGo q params body scope (cloFrom X.env.cells scope.names []) M TT t ta) := by
  refine ⟨fun pins s σ H Q I want => ?_⟩
  obtain ⟨pg, dV, kV, doc, pm, ct, oc, an, od, osl, lk, hb⟩ := G.fn
  have mY : Y.mg x = some (.ref g) := by rw [kin.mg]; exact G.m
  have kY : PySem.W.keepIn Y.K (.ref g) = true := by rw [kin.K]; exact G.k
  refine wpAny_Call_Name_kw (ld_glob I hg mY ?_ hdb)
  refine PySem.W.callWith_K (h₀ := Y.base) I.ok.mod.kin kY (thn (ha.run pos pins s σ H _ I want) fun us s1 got => ?_) he hpl
  obtain ⟨vs, H1, I1, rel, f, rfl, lam, rd⟩ := got
  refine ⟨I1.kIn, ?_⟩
  have eu : us = [.ref f] := by
    cases rel with
    | cons r rn =>
      cases rn
      rw [show _ = Value.ref f from r]
  subst eu
  have C1 := caps _ _ _ _ I1
  have env : Env0 X.prog X.w X.K X.mg X.base X.A X.stack s1 H1 := by
    have z := I1.env0
    rw [kin.prog, kin.w, kin.K, kin.mg, kin.base, kin.A, kin.stack] at z
    exact z
  have kI : X.K.In s1.heap := by
    have z := I1.kIn
    rw [kin.K] at z
    exact z
  have run : codeAny (model X.prog X.w) X.A (.call (.ref g) ⟨[.ref f], []⟩) (CR C8.CX0 X.stack X.prog X.w H1 s1 Q C8.E0) s1 := by
    refine run_ofS (N := Ng) (ps := [a]) (us := [.ref f]) (vs := [.ref f]) lk G.cd G.S room env (hb s1 [.ref f] kI rfl) (.cons rfl .nil) rfl fun room' => ?_
    obtain ⟨t', ht', hq'⟩ := G.gets (fun H f => IsLam q params body scope (cloFrom X.env.cells scope.names []) H f) f s1 H1 Q (fun E H' Q' => t E (M σ) H' Q')
      (fun W pn xe E p1 p2 tk hW => pe_does (i := 0) C1 L eq_ noargs tk hW room' (fun A outer s H f c' r => does A outer s H E f c' r) G.n0 G.v0 hd hcd) lam rd
    exact ⟨t', ht'.nox, hq'⟩
  rw [kin.prog, kin.w, kin.A]
  refine wpAny_call (codeAny_mono run fun r s2 res => ?_)
  cases r with
  | error e => exact (show False from res).elim
  | ok fl =>
    cases fl with
    | ret u =>
      have res' : CE Y.stack Y.prog Y.w H1 s1 Q u s2 := by
        rw [kin.prog, kin.w, kin.stack]
        exact res
      exact I1.after res'
    | next => exact False.elim res
    | brk => exact False.elim res
    | cont => exact False.elim res
end XL
end
section
set_option Elab.async false
set_option linter.all false
set_option maxRecDepth 100000
set_option maxHeartbeats 4100000
namespace XK
open PySem PySem.Spec PyProof.Rows L2
/-! ### a def that is called where no repr is under way -/
section
variable {P : Program} {w : World} {K : PySem.W.Frag} {mg : Str → Option Value} {base : Heap} {CX : CXT} {k : Nat} {f : Addr} {fd : FuncData} {N ps : List Str} {sp : Sp}
structure AtG (P : Program) (w : World) (K : PySem.W.Frag) (mg : Str → Option Value) (base : Heap) (CX : CXT) (k : Nat) (f : Addr) (fd : FuncData) (ps : List Str) (sp : Sp) : Prop where
  len : ∀ vs H Q E, sp vs H Q E → vs.length = ps.length
  go : ∀ (A : Around) (outer : List Env) (s : Shared) (H : Hp) (args : Args) (us : List Value) (vs : List V) (Q : VK) (E : XK), A.guards = some [] → Room k A → Env0 P w K mg base A outer s H → BindsTo s fd args (ps.zip us) → Vals vs us → sp vs H Q E →
    codeAny (model P w) A (.call (.ref f) args) (CR CX outer P w H s Q E) s
theorem atG {x qual : Str} {st : Stmt} (F : Fun K x qual st f fd) (S : FnScope N ps (defScope st)) (len : ∀ vs H Q E, sp vs H Q E → vs.length = ps.length)
    (body : ∀ (cdv : Value) (A : Around) (outer : List Env) (s : Shared) (H : Hp) (vs : List V) (Q : VK) (E : XK), A.guards = some [] → Room k (A.deeper (envOfC qual (defScope st) s.heap.objs.size f cdv)) → sp vs H Q E →
      ∃ t, PSs (cxOf CX P w K mg base N qual (defScope st) f cdv A outer s H E).nox (defBody st) t ∧ t { nx := fun _ H' => Q .non H', rt := Q } (start N vs) H) :
    AtG P w K mg base CX (k + 1) f fd ps sp := by
  obtain ⟨oc, od, kV, doc, pm, an, cdv, ct, osl, rfl, lk, hcd⟩ := F.ex
  refine ⟨len, fun A outer s H args us vs Q E quiet room env bind rel want => ?_⟩
  have count := len _ _ _ _ want
  have inn : K.In s.heap := env.mod.kin.keeps fun b o e => (env.bs b o e).1
  have lim : s.heap.NoLimit := env.mod.nolimit.keeps fun b o e => (env.bs b o e).1
  have kinds : ∀ y ∈ ps.zip us, (defScope st).names.lookup y.1 = some .local ∨ ((defScope st).names.lookup y.1 = some .cell ∧ ((cellsFrom (s.heap.objs.size + 1) (defScope st).names []).lookup y.1).isSome = true) := by
    intro y hy
    rcases S.par y.1 (List.of_mem_zip hy).1 with q | q
    · exact .inl q
    · exact .inr ⟨q, PySem.W.cellsFrom_some _ _ _ (.inl q)⟩
  refine codeAny_call_function room.depth (inn _ _ lk) rfl S.co S.gen rfl (PySem.W.codeRec_of inn hcd) (bind _ _ _ _ ?_)
  refine wpAny_newFunctionEnv_cells S.kind kinds fun en hen s1 entered => ?_
  subst hen
  refine ⟨lim.keeps entered.toInCall.keep, codeAny_func ?_⟩
  obtain ⟨t, der, rd⟩ := body cdv A outer s H vs Q E quiet (room.deeper _) want
  have I0 : Inv (cxOf CX P w K mg base N qual (defScope st) f cdv A outer s H E) [] (start N vs) H s1 := inv_start S room.hd env count rel entered
  refine wpAny_mono (der.nox.run [] s1 (start N vs) H _ I0 rd) (fun flow s' res => ?_) fun _ _ res => res
  cases flow with
  | ret u =>
    obtain ⟨v, σ', H', J, rv, q⟩ := res
    exact ⟨v, H', J.os, J.bare, J.base, J.hok, rv, q⟩
  | next =>
    obtain ⟨σ', H', J, q⟩ := res
    exact ⟨V.non, H', J.os, J.bare, J.base, J.hok, rfl, q⟩
  | brk =>
    obtain ⟨_, _, _, no⟩ := res
    exact no.elim
  | cont =>
    obtain ⟨_, _, _, no⟩ := res
    exact no.elim
variable {X : Cx} {x : Str} {e : Expr} {es : List Expr} {t : TA} {p pos : Pos}
/-- such a def, called -/
theorem pe_callG (F : AtG X.prog X.w X.K X.mg X.base CX k f fd ps sp) (quiet : X.A.guards = some []) (hr : Room k X.A) (hg : Gl X x) (hm : X.mg x = some (.ref f)) (hk : PySem.W.keepIn X.K (.ref f) = true) (hb : Binds X.K fd ps []) {E : XK} (hx : Passes CX X E)
    (ha : PA X (e :: es) t) (hdb : (x == ("__debug__" : Str)) = false := by decide) (he : starEach (e :: es) X.env = (false, eval e X.env) :: starEach es X.env := by rfl) (hpl : (backTo pos (starEach es X.env)).any (·.1) = false := by rfl) :
    PE X (.Call (.Name x p) (e :: es) [] pos) (fun σ H Q => t σ H fun vs H1 => sp vs H1 Q E) := by
  refine ⟨fun pins s σ H Q I h => ?_⟩
  refine wpAny_Call_Name_kw (ld_glob I hg hm ?_ hdb)
  refine PySem.W.callWith_K (h₀ := X.base) I.ok.mod.kin hk (thn (ha.run pos pins s σ H _ I h) fun us s1 ⟨vs, H1, I1, r, q⟩ => ⟨I1.kIn, ?_⟩) he hpl
  have hl := F.len _ _ _ _ q
  refine wpAny_call (codeAny_mono (F.go X.A X.stack s1 H1 ⟨us, []⟩ us vs _ E quiet hr I1.env0 (by
    have := hb s1 us I1.kIn (by rw [List.append_nil, ← r.length]; exact hl)
    simpa using this) r q) fun res s' hq => ?_)
  cases res with
  | error e => exact hx pins σ H1 s1 e s' I1 hq
  | ok fl =>
    cases fl with
    | ret u => exact I1.after hq
    | next => exact False.elim hq
    | brk => exact False.elim hq
    | cont => exact False.elim hq
end
end XK
end
section
set_option Elab.async false
set_option linter.all false
set_option maxRecDepth 100000
set_option maxHeartbeats 4100000
namespace XK
open PySem PySem.Spec PyProof.Rows L2
/-! ### several clauses 'except x as n' -/
abbrev Hnd := Value × Nat × (Addr → Value → Option Addr → TS)
/-- the ends of a suite whose slot i is let go -/
def lets (D : Ends) (i : Nat) : Ends := { nx := fun σ' H' => D.nx (σ'.set i none) H', rt := D.rt, bk := fun σ' H' => D.bk (σ'.set i none) H', ct := fun σ' H' => D.ct (σ'.set i none) H' }
def wAll (K : PySem.W.Frag) (Wo : WX) (D : Ends) : List Hnd → WX
  | [] => Wo
  | (c, i, ts) :: r => fun cls d σ H =>
    ∃ b, PySem.W.exmOne K cls c = some b ∧ (b = true → ∀ a, H a = none → ts a cls d (lets D i) (σ.set i (some (.ref a))) H) ∧ (b = false → wAll K Wo D r cls d σ H)
inductive AsOk (X : Cx) : List ExceptHandler → List Hnd → Prop
  | nil : AsOk X [] []
  | cons {x n : Str} {c : Value} {i : Nat} {ts : Addr → Value → Option Addr → TS} {b0 : Stmt} {su : List Stmt} {pn pz : Pos} {hs : List ExceptHandler} {l : List Hnd} (nm : Names X x c) (at_ : X.N[i]? = some n) (lc : X.env.kindOf n = some .local)
      (go : ∀ (a : Addr) (oe : Obj) (cls : Value) (d : Option Addr) (pn : List (Addr × Obj)), Zc cls d oe → (∃ vs, oe.data = .fields vs) → PSs (X.suite a ((a, oe) :: pn)) (b0 :: su) (ts a cls d)) (r : AsOk X hs l) :
      AsOk X (.ExceptHandler (some (.Name x pn)) (some n) (b0 :: su) pz :: hs) ((c, i, ts) :: l)
section
variable {X : Cx} {body : List Stmt} {h1 : ExceptHandler} {hs : List ExceptHandler} {l : List Hnd} {pos : Pos} {tb : WX → TS} {Wo : WX}
theorem ps_try_ases (st : X.stack = X.env :: X.outer) (fr : X.env.frame = some X.env.locals) (nd : X.N.Nodup) (tk : Takes X Wo)
    (bd : ∀ (W : WX) (pn : List (Addr × Obj)) (xe : Value → Shared → Prop), Takes (X.tr pn xe) W → PassesOwn (model X.prog X.w) X.A X.env xe → PSs (X.tr pn xe) body (tb W)) (hh : AsOk X (h1 :: hs) l) :
    PS X (.Try body (h1 :: hs) [] [] pos) (fun D σ H => tb (wAll X.K Wo D l) D σ H) := by
  refine ⟨fun pins s σ H D I want => ?_⟩
  have ok := I.ok
  have frs_ : X.A.frames = some (X.env :: X.outer) := by
    rw [ok.frames, st]
  refine wpAny_Try_except ?_
  refine wpAny_mono ((bd (wAll X.K Wo D l) (X.pn ++ pins) (fun e s₁ => wpAny (model X.prog X.w) X.A (noteFrame e X.env) (fun _ s₂ => wpAny (model X.prog X.w) X.A (setFlight e none) (fun _ s₃ =>
    wpAny (model X.prog X.w) X.A (handleBy e X.env (h1 :: hs)) (SP X pins D) X.xe s₃) X.xe s₂) X.xe s₁) (fun u s' xx => ?_) PassesOwn.looking).run [] s σ H D (I.toTry _) want) (fun f s1 done => ?_) (fun e s1 he => he)
  · obtain ⟨a, B, sI, pinz, σ1, H1, cls, d, rfl, J0, nb, up, sky, na, os, ag, w⟩ := xx
    have J1 : Inv X pins σ1 H1 sI := J0.ofTry ok
    have sky1 : Sky B (X.env :: X.outer) a (Zc cls d) X.env.locals s'.heap := by
      rw [← st]
      exact sky
    show wpAny (model X.prog X.w) X.A (noteFrame (.ref a) X.env)
      _ _ _
    refine Sky.land Zc.steady frs_ fr sky1 fun g3 la3 up3 => ?_
    have J3 : Inv X pins σ1 H1 { s' with heap := g3 } := J1.landed nb la3.1 (up.trans up3) os ag
    obtain ⟨o3, v3, at3, z3, d3⟩ := la3.there
    have off : ∀ {h : Heap} {o : Obj} {vs : Array Value}, h.FunFrames B (X.env :: X.outer) → h.get? a = some o → o.data = .fields vs → a ∉ frs (X.env :: X.outer) := fun {h o vs} ff e dd hm => by
      obtain ⟨_, o', e', hnf⟩ := ff.mem hm
      rw [e] at e'
      cases e'
      exact hnf _ dd
    have away := off la3.2.2.1 at3 d3
    have aL : a ≠ X.env.locals := fun z => away (List.mem_filterMap.mpr ⟨X.env, List.mem_cons_self, by rw [fr, z]⟩)
    have aF : a ∉ X.fs := fun hm => by
      obtain ⟨e, he, q⟩ := List.mem_filterMap.mp hm
      exact away (List.mem_filterMap.mpr ⟨e, List.mem_cons_of_mem _ he, q⟩)
    have S3 := J3.suite at3 d3 na aL aF
    have walk : ∀ {hz : List ExceptHandler} {lz : List Hnd}, AsOk X hz lz → wAll X.K Wo D lz cls d σ1 H1 → wpAny (model X.prog X.w) X.A (handleBy (.ref a) X.env hz) (SP X pins D) X.xe { s' with heap := g3 } := by
      intro hz lz hk
      induction hk with
      | nil =>
        intro w
        refine wpAny_handleBy_nil ?_
        obtain ⟨k1, k2, k3, oe, vs, T, oT, tsz, he, hz, hd, f1, hr⟩ := id la3
        unfold PySem.passOn
        refine wpAny_bind (wpAny_field he hd f1 ?_)
        rw [if_neg (show ¬ ((Value.ref T == Value.none) = true)
          from by simp)]
        have last : wpAny (model X.prog X.w) X.A (setFlight (.ref a) X.env.frame) (fun _ s4 => wpAny (model X.prog X.w) X.A (throw (.ref a) : Sem Flow) (SP X pins D) X.xe s4) X.xe { s' with heap := g3 } := by
          rw [fr]
          refine HandSPX.setFlight_upZ la3 fun g4 fl4 up4 => wpAny_throw (tk _ _ ?_)
          exact ⟨a, B, sI, pins, σ1, H1, cls, d, rfl, J1, nb, (up.trans up3).trans up4, .inr (.inr (by rw [st]; exact fl4)), na, os, ag, w⟩
        first
          | exact wpAny_bind
              (wpAny_pure (wpAny_bind last))
          | exact wpAny_bind last
      | @cons x n c i ts b0 su pn pz h2 l2 nm at_ lc go r ih =>
        intro w
        obtain ⟨b, hb, yes, no⟩ := w
        refine wpAny_handleBy_cons (codeAny_handlers_test ?_)
          (by intro q; cases q)
        have LT : PySem.W.Looks (model X.prog X.w) g3 (typeOf (.ref a)) cls := fun A Q E s k q => wpAny_typeOf_ref (k _ _ at3) (by rw [z3.1]; exact q)
        have LM := PySem.W.exm_one (M := model X.prog X.w) (J3.kIn) LT hb
        have test : ∀ {Q : Value → Shared → Prop} {E : Value → Shared → Prop}, Q c { s' with heap := g3 } → wpAny (model X.prog X.w) (X.A.mark (some (.ref a))) (eval (.Name x pn) X.env) Q E { s' with heap := g3 } := fun {Q E} q => by
          obtain ⟨hg, hdbg, hm | ⟨hm, hv, hnn⟩⟩ := nm
          · exact ld_glob (X := X.suite a ((a, o3) :: (X.pn ++ pins))) S3 hg hm q hdbg
          · exact ld_blt (X := X.suite a ((a, o3) :: (X.pn ++ pins))) S3 hg hm hv q hnn hdbg
        refine test (LM.here ?_)
        cases b with
        | true =>
          refine codeAny_handlers_suite_as ?_
          refine HandSPX.lands_againZ la3 fun g4 fl4 up4 => ?_
          have J4 : Inv X pins σ1 H1 { s' with heap := g4 } := J1.landed nb fl4.1 ((up.trans up3).trans up4) os ag
          obtain ⟨o4, v4, at4, z4, d4⟩ := fl4.there
          have S4 := J4.suite at4 d4 na aL aF
          refine store_ok (X := X.suite a ((a, o4) :: (X.pn ++ pins))) (v := .ref a) S4 nd at_ (.inl lc) rfl (fun s5 S5 => ?_) (.inr lc)
          refine wpAny_mono ((go a o4 cls d (X.pn ++ pins) z4 ⟨_, d4⟩).run [] s5 _ H1 _ S5 (yes rfl a na)) (fun f s6 done => ?_) (fun _ _ z => False.elim z)
          have gone : ∀ {σ6 : L2.St} {H6 : Hp} {Q : Shared → Prop}, Inv (X.suite a ((a, o4) :: (X.pn ++ pins))) [] σ6 H6 s6 → (∀ s7, Inv X pins (σ6.set i none) H6 s7 → Q s7) →
              wpAny (model X.prog X.w) X.A (do bindName X.env n .none; unbindBehindTheSuite X.env n pz) (fun _ s7 => Q s7) X.xe s6 := fun {σ6 H6 Q} S6 hq => gone_ok (S6.unsuite ok) nd at_ lc hq
          cases f with
          | next =>
            obtain ⟨σ6, H6, S6, q6⟩ := done
            exact gone S6 fun s7 J7 => ⟨_, _, J7, q6⟩
          | brk =>
            obtain ⟨σ6, H6, S6, q6⟩ := done
            exact gone S6 fun s7 J7 => ⟨_, _, J7, q6⟩
          | cont =>
            obtain ⟨σ6, H6, S6, q6⟩ := done
            exact gone S6 fun s7 J7 => ⟨_, _, J7, q6⟩
          | ret u =>
            obtain ⟨v6, σ6, H6, S6, r6, q6⟩ := done
            exact gone S6 fun s7 J7 => ⟨_, _, _, J7, r6, q6⟩
        | false =>
          show wpAny _ X.A (handleBy (.ref a) X.env h2)
            _ _ _
          exact ih (no rfl)
    exact walk hh w
  · cases f with
    | next =>
      obtain ⟨σ1, H1, J1, q⟩ := done
      exact wpAny_execs_nil ⟨σ1, H1, J1.ofTry ok, q⟩
    | brk =>
      obtain ⟨σ1, H1, J1, q⟩ := done
      exact ⟨σ1, H1, J1.ofTry ok, q⟩
    | cont =>
      obtain ⟨σ1, H1, J1, q⟩ := done
      exact ⟨σ1, H1, J1.ofTry ok, q⟩
    | ret u =>
      obtain ⟨v, σ1, H1, J1, r, q⟩ := done
      exact ⟨v, σ1, H1, J1.ofTry ok, r, q⟩
end
end XK
end
section
set_option Elab.async false
set_option linter.all false
set_option maxRecDepth 100000
set_option maxHeartbeats 4100000
namespace LA
open PySem PySem.Spec PyProof.Rows L2 XS XT LM XK XL LamX
/-! ### the def that tells what a call does -/
abbrev sTold : Stmt := top 50
abbrev nTold : List Str := ["_law_call", "e"]
theorem scTd : FnScope nTold ["_law_call"] (defScope sTold) := ⟨rfl, rfl, rfl, by decide +kernel, rfl, by decide +kernel, by decide +kernel⟩
/-- isinstance(e, c) in an except suite, e an own error with its dict -/
theorem call_isS {X : Cx} {a D dd0 : Addr} {oe : Obj} {pn : List (Addr × Obj)} (T : XT X.K D) (hz : Zc (.ref D) (some dd0) oe) (hf : ∃ vs, oe.data = .fields vs) :
    CallR (X.suite a ((a, oe) :: pn)) (.builtin "isinstance") (fun xs H Q => ∃ (c : V) (cv : Value) (b : Bool) (fs : List (Str × V)), xs = [.ref a, c] ∧ ClsV c cv ∧ H dd0 = some (.xd fs) ∧ PySem.W.kitOne X.K (.ref D) cv = some b ∧ Q (.bl b) H) := by
  intro pins s σ H xs us Q I r h
  obtain ⟨c, cv, b, fs, rfl, k, ed, e, q⟩ := h
  obtain ⟨u1, u2, rfl, r1, r2⟩ := vals2 r
  have e2 := k.eq r2
  subst e2
  cases (show u1 = Value.ref a from r1)
  obtain ⟨ho, _⟩ := I.pin (a, oe) (List.mem_append.mpr (.inl List.mem_cons_self))
  obtain ⟨vs, hv⟩ := hf
  obtain ⟨mA, hns, _⟩ := (show ObjOk X.prog X.w H s.heap dd0 (.xd fs) from I.hok dd0 _ ed)
  obtain ⟨od, hod, _⟩ := lookIn_ns hns
  have J : PySem.W.InstAt s.heap a oe D (some od) := ⟨ho, hz.1, by unfold PySem.W.notCls; rw [hv] <;> rfl, by rw [hz.2]; exact hod⟩
  have hc : (PySem.W.clsIn X.K D).isSome = true := by
    obtain ⟨cd, h1, _⟩ := T.opn
    rw [h1]
    rfl
  exact PySem.W.kia_one (PySem.W.kitx_exc hc T.ga T.gg T.exC T.ac T.gn T.tk T.mo) I.kIn J e (fun z => nomatch z) fun tk => ⟨.bl b, H, I.tok tk, rfl, q⟩
/-- the four errors -/
structure ErrF (K : PySem.W.Frag) (mg : Str → Option Value) (DB DT DM DR : Addr) : Prop where
  B : Err1 K mg "InvalidBlock" "index" DB
  T : Err1 K mg "InvalidText" "value" DT
  M : Err1 K mg "TooMany" "limit" DM
  R : Err1 K mg "OutOfRange" "value" DR
  bb : PySem.W.exmOne K (.ref DB) (.ref DB) = some true
  tb : PySem.W.exmOne K (.ref DT) (.ref DB) = some false
  tt : PySem.W.exmOne K (.ref DT) (.ref DT) = some true
  mb : PySem.W.exmOne K (.ref DM) (.ref DB) = some false
  mt : PySem.W.exmOne K (.ref DM) (.ref DT) = some false
  mm : PySem.W.exmOne K (.ref DM) (.ref DM) = some true
  rb : PySem.W.exmOne K (.ref DR) (.ref DB) = some false
  rt : PySem.W.exmOne K (.ref DR) (.ref DT) = some false
  rm : PySem.W.exmOne K (.ref DR) (.ref DM) = some false
  rr : PySem.W.exmOne K (.ref DR) (.ref DR) = some true
  kB : PySem.W.kitOne K (.ref DB) (.type "ValueError") = some true
  kT : PySem.W.kitOne K (.ref DT) (.type "ValueError") = some true
  kM : PySem.W.kitOne K (.ref DM) (.type "OverflowError") = some true
  kR : PySem.W.kitOne K (.ref DR) (.type "LookupError") = some true
/-- what is told of an error -/
def ToldE (K : PySem.W.Frag) (DB DT DM DR : Addr) (Q : VK) : XK := fun cls d H' => ∃ (dd : Addr) (x : V), d = some dd ∧
  ((cls = .ref DB ∧ H' dd = some (.xd [("index", x)]) ∧ ∀ p, H' p = none → Q (.ref p) (upd H' p (.tup [.str "block", x, .bl true]))) ∨
   (cls = .ref DT ∧ H' dd = some (.xd [("value", x)]) ∧ ∃ e, DX K H' x e ∧ Shows e ∧ ∀ p, H' p = none → Q (.ref p) (upd H' p (.tup [.str "text", .str e.shown, .bl true]))) ∨
   (cls = .ref DM ∧ H' dd = some (.xd [("limit", x)]) ∧ ∀ p, H' p = none → Q (.ref p) (upd H' p (.tup [.str "many", x, .bl true]))) ∨
   (cls = .ref DR ∧ H' dd = some (.xd [("value", x)]) ∧ ∃ e, DX K H' x e ∧ Shows e ∧ ∀ p, H' p = none → Q (.ref p) (upd H' p (.tup [.str "out", .str e.shown, .bl true]))))
/-- told, of what the call does -/
def TTold (K : PySem.W.Frag) (DB DT DM DR : Addr) : (XK → Hp → VK → Prop) → Hp → VK → Prop := fun tl H Q =>
  tl (ToldE K DB DT DM DR Q) H (fun v H' => [V.str "told", v].length ≤ sizeLine ∧ ∀ p, H' p = none → Q (.ref p) (upd H' p (.tup [V.str "told", v])))
section
variable {X : Cx} {DB DT DM DR : Addr}
theorem gets_told {g : Addr} {k : Nat} {cdg : Value} (quiet : X.A.guards = some []) (room : Room (k + 1) X.A) (F : ErrF X.K X.mg DB DT DM DR) (isM : X.mg "isinstance" = none) (mRe : X.mg "repr" = none) (mV : X.mg "ValueError" = none) (mO : X.mg "OverflowError" = none) (mLk : X.mg "LookupError" = none) :
    Gets X nTold "_law_told" (defScope sTold) g cdg (defBody sTold) "_law_call" (TTold X.K DB DT DM DR) := by
  intro LP f s H Q tl act lp h
  have hu : (X.A.deeper (envOfC "_law_told" (defScope sTold) s.heap.objs.size g cdg)).units + 64 < cLine := (room.deeper (envOfC "_law_told" (defScope sTold) s.heap.objs.size g cdg)).units
  have quiet2 : (X.A.deeper (envOfC "_law_told" (defScope sTold) s.heap.objs.size g cdg)).guards = some [] := quiet
  have fxB : XfC X.K DB := ⟨F.B.T.ga, F.B.T.gg, F.B.T.exC, F.B.T.hd⟩
  have fxT : XfC X.K DT := ⟨F.T.T.ga, F.T.T.gg, F.T.T.exC, F.T.T.hd⟩
  have fxM : XfC X.K DM := ⟨F.M.T.ga, F.M.T.gg, F.M.T.exC, F.M.T.hd⟩
  have fxR : XfC X.K DR := ⟨F.R.T.ga, F.R.T.gg, F.R.T.exC, F.R.T.hd⟩
  refine ⟨_, pss_one (ps_try_ases (X := (cxOf C8.CX0 X.prog X.w X.K X.mg X.base nTold "_law_told" (defScope sTold) g cdg X.A X.stack s H C8.E0).nox)
      (tb := fun W D' σ H => ∃ Ech : XK, (∀ cls d σ' H', Ech cls d H' → W cls d σ' H') ∧ σ[0]? = some (some (.ref f)) ∧ LP H f ∧ tl Ech H (fun v H1 => [V.str "told", v].length ≤ sizeLine ∧ ∀ p, H1 p = none → D'.rt (.ref p) (upd H1 p (.tup [V.str "told", v]))))
      (l := [(.ref DB, 1, fun a cls d D' σ H => ∃ (dd : Addr) (x : V), cls = .ref DB ∧ d = some dd ∧ (σ.length = 2 → σ[1]? = some (some (.ref a))) ∧ H dd = some (.xd [("index", x)]) ∧ ∀ p, H p = none → D'.rt (.ref p) (upd H p (.tup [.str "block", x, .bl true]))),
             (.ref DT, 1, fun a cls d D' σ H => ∃ (dd : Addr) (x : V) (e : PyData), cls = .ref DT ∧ d = some dd ∧ (σ.length = 2 → σ[1]? = some (some (.ref a))) ∧ H dd = some (.xd [("value", x)]) ∧ DX X.K H x e ∧ Shows e ∧ ∀ p, H p = none → D'.rt (.ref p) (upd H p (.tup [.str "text", .str e.shown, .bl true]))),
             (.ref DM, 1, fun a cls d D' σ H => ∃ (dd : Addr) (x : V), cls = .ref DM ∧ d = some dd ∧ (σ.length = 2 → σ[1]? = some (some (.ref a))) ∧ H dd = some (.xd [("limit", x)]) ∧ ∀ p, H p = none → D'.rt (.ref p) (upd H p (.tup [.str "many", x, .bl true]))),
             (.ref DR, 1, fun a cls d D' σ H => ∃ (dd : Addr) (x : V) (e : PyData), cls = .ref DR ∧ d = some dd ∧ (σ.length = 2 → σ[1]? = some (some (.ref a))) ∧ H dd = some (.xd [("value", x)]) ∧ DX X.K H x e ∧ Shows e ∧ ∀ p, H p = none → D'.rt (.ref p) (upd H p (.tup [.str "out", .str e.shown, .bl true])))])
      rfl rfl scTd.nd L2.takes0 (fun W pn xe tk _ => ?_)
      (.cons ⟨by rfl, by decide, .inl F.B.m⟩ rfl rfl (fun a oe cls d pn hz hf => ?_)
      (.cons ⟨by rfl, by decide, .inl F.T.m⟩ rfl rfl (fun a oe cls d pn hz hf => ?_)
      (.cons ⟨by rfl, by decide, .inl F.M.m⟩ rfl rfl (fun a oe cls d pn hz hf => ?_)
      (.cons ⟨by rfl, by decide, .inl F.R.m⟩ rfl rfl (fun a oe cls d pn hz hf => ?_) .nil))))), ?_⟩
  · refine ⟨fun pins s' σ H' D' I h' => ?_⟩
    obtain ⟨Ech, hW, h1, h2, h3⟩ := h'
    exact PSs.run (pss_one (ps_ret (pe_tup (pa_cons pe_str (pa_cons (act W pn xe Ech _ _ tk hW) pa_nil))))) pins s' σ H' D' I ⟨h1, h2, h3⟩
  · refine ⟨fun pins s' σ H' D' I h' => ?_⟩
    obtain ⟨dd, x, rfl, rfl, se, hdd, go⟩ := h'
    have se := se I.len
    refine PSs.run (pss_one (ps_ret (pe_tup (pa_cons pe_str (pa_cons (pe_xf (X := (cxOf C8.CX0 X.prog X.w X.K X.mg X.base nTold "_law_told" (defScope sTold) g cdg X.A X.stack s H C8.E0).nox) (pn := pn) fxB F.B.J.noN hz hf (pv 1)) (pa_cons (pe_callB (call_isS (X := (cxOf C8.CX0 X.prog X.w X.K X.mg X.base nTold "_law_told" (defScope sTold) g cdg X.A X.stack s H C8.E0).nox) (pn := pn) F.B.T hz hf) (by rfl) isM (by decide +kernel) (pa_cons (pv 1) (pa_cons (pe_bltn (v := .ty "ValueError") (by rfl) mV (by decide +kernel) rfl) pa_nil))) pa_nil)))))) pins s' σ H' D' I ?_
    exact ⟨_, se, rfl, rfl, dd, _, _, rfl, hdd, look0, _, se, _, _, true, _, rfl, .ty _, hdd, F.kB, (by show 3 ≤ sizeLine; decide), fun p np => go p np⟩
  · refine ⟨fun pins s' σ H' D' I h' => ?_⟩
    obtain ⟨dd, x, e, rfl, rfl, se, hdd, hx, sh, go⟩ := h'
    have se := se I.len
    refine PSs.run (pss_one (ps_ret (pe_tup (pa_cons pe_str (pa_cons (pe_callB (call_repr (X := (cxOf C8.CX0 X.prog X.w X.K X.mg X.base nTold "_law_told" (defScope sTold) g cdg X.A X.stack s H C8.E0).nox.suite a ((a, oe) :: pn)) quiet2 hu) (by rfl) mRe (by decide +kernel) (pa_cons (pe_xf (X := (cxOf C8.CX0 X.prog X.w X.K X.mg X.base nTold "_law_told" (defScope sTold) g cdg X.A X.stack s H C8.E0).nox) (pn := pn) fxT F.T.J.noN hz hf (pv 1)) pa_nil)) (pa_cons (pe_callB (call_isS (X := (cxOf C8.CX0 X.prog X.w X.K X.mg X.base nTold "_law_told" (defScope sTold) g cdg X.A X.stack s H C8.E0).nox) (pn := pn) F.T.T hz hf) (by rfl) isM (by decide +kernel) (pa_cons (pv 1) (pa_cons (pe_bltn (v := .ty "ValueError") (by rfl) mV (by decide +kernel) rfl) pa_nil))) pa_nil)))))) pins s' σ H' D' I ?_
    exact ⟨_, se, rfl, rfl, dd, _, _, rfl, hdd, look0, _, _, rfl, hx, sh, _, se, _, _, true, _, rfl, .ty _, hdd, F.kT, (by show 3 ≤ sizeLine; decide), fun p np => go p np⟩
  · refine ⟨fun pins s' σ H' D' I h' => ?_⟩
    obtain ⟨dd, x, rfl, rfl, se, hdd, go⟩ := h'
    have se := se I.len
    refine PSs.run (pss_one (ps_ret (pe_tup (pa_cons pe_str (pa_cons (pe_xf (X := (cxOf C8.CX0 X.prog X.w X.K X.mg X.base nTold "_law_told" (defScope sTold) g cdg X.A X.stack s H C8.E0).nox) (pn := pn) fxM F.M.J.noN hz hf (pv 1)) (pa_cons (pe_callB (call_isS (X := (cxOf C8.CX0 X.prog X.w X.K X.mg X.base nTold "_law_told" (defScope sTold) g cdg X.A X.stack s H C8.E0).nox) (pn := pn) F.M.T hz hf) (by rfl) isM (by decide +kernel) (pa_cons (pv 1) (pa_cons (pe_bltn (v := .ty "OverflowError") (by rfl) mO (by decide +kernel) rfl) pa_nil))) pa_nil)))))) pins s' σ H' D' I ?_
    exact ⟨_, se, rfl, rfl, dd, _, _, rfl, hdd, look0, _, se, _, _, true, _, rfl, .ty _, hdd, F.kM, (by show 3 ≤ sizeLine; decide), fun p np => go p np⟩
  · refine ⟨fun pins s' σ H' D' I h' => ?_⟩
    obtain ⟨dd, x, e, rfl, rfl, se, hdd, hx, sh, go⟩ := h'
    have se := se I.len
    refine PSs.run (pss_one (ps_ret (pe_tup (pa_cons pe_str (pa_cons (pe_callB (call_repr (X := (cxOf C8.CX0 X.prog X.w X.K X.mg X.base nTold "_law_told" (defScope sTold) g cdg X.A X.stack s H C8.E0).nox.suite a ((a, oe) :: pn)) quiet2 hu) (by rfl) mRe (by decide +kernel) (pa_cons (pe_xf (X := (cxOf C8.CX0 X.prog X.w X.K X.mg X.base nTold "_law_told" (defScope sTold) g cdg X.A X.stack s H C8.E0).nox) (pn := pn) fxR F.R.J.noN hz hf (pv 1)) pa_nil)) (pa_cons (pe_callB (call_isS (X := (cxOf C8.CX0 X.prog X.w X.K X.mg X.base nTold "_law_told" (defScope sTold) g cdg X.A X.stack s H C8.E0).nox) (pn := pn) F.R.T hz hf) (by rfl) isM (by decide +kernel) (pa_cons (pv 1) (pa_cons (pe_bltn (v := .ty "LookupError") (by rfl) mLk (by decide +kernel) rfl) pa_nil))) pa_nil)))))) pins s' σ H' D' I ?_
    exact ⟨_, se, rfl, rfl, dd, _, _, rfl, hdd, look0, _, _, rfl, hx, sh, _, se, _, _, true, _, rfl, .ty _, hdd, F.kR, (by show 3 ≤ sizeLine; decide), fun p np => go p np⟩
  · refine ⟨ToldE X.K DB DT DM DR Q, fun cls d σ' H' e => ?_, rfl, lp, h⟩
    obtain ⟨dd, x, rfl, e⟩ := e
    have slot : ∀ a : Addr, (σ'.set 1 (some (V.ref a))).length = 2 → (σ'.set 1 (some (V.ref a)))[1]? = some (some (V.ref a)) := fun a len => by
      rw [List.length_set] at len
      exact List.getElem?_set_self (by omega)
    rcases e with ⟨rfl, hd, go⟩ | ⟨rfl, hd, e, hx, sh, go⟩ | ⟨rfl, hd, go⟩ | ⟨rfl, hd, e, hx, sh, go⟩
    · exact ⟨true, F.bb, fun _ a _ => ⟨dd, x, rfl, rfl, slot a, hd, go⟩, fun z => nomatch z⟩
    · exact ⟨false, F.tb, (fun z => nomatch z), fun _ => ⟨true, F.tt, fun _ a _ => ⟨dd, x, e, rfl, rfl, slot a, hd, hx, sh, go⟩, fun z => nomatch z⟩⟩
    · exact ⟨false, F.mb, (fun z => nomatch z), fun _ => ⟨false, F.mt, (fun z => nomatch z), fun _ => ⟨true, F.mm, fun _ a _ => ⟨dd, x, rfl, rfl, slot a, hd, go⟩, fun z => nomatch z⟩⟩⟩
    · exact ⟨false, F.rb, (fun z => nomatch z), fun _ => ⟨false, F.rt, (fun z => nomatch z), fun _ => ⟨false, F.rm, (fun z => nomatch z), fun _ => ⟨true, F.rr, fun _ a _ => ⟨dd, x, e, rfl, rfl, slot a, hd, hx, sh, go⟩, fun z => nomatch z⟩⟩⟩⟩
/-- told, as the law knows it -/
structure ToldAt (K : PySem.W.Frag) (mg : Str → Option Value) (DB DT DM DR g : Addr) (fd : FuncData) : Prop where
  F : Fun K "_law_told" "_law_told" sTold g fd
  m : mg "_law_told" = some (.ref g)
  k : PySem.W.keepIn K (.ref g) = true
  b : Binds K fd ["_law_call"] []
  E : ErrF K mg DB DT DM DR
  isM : mg "isinstance" = none
  re : mg "repr" = none
  mV : mg "ValueError" = none
  mO : mg "OverflowError" = none
  mLk : mg "LookupError" = none
theorem ToldAt.taker {g : Addr} {fd : FuncData} {k : Nat} (quiet : X.A.guards = some []) (room : Room (k + 1) X.A) (R : ToldAt X.K X.mg DB DT DM DR g fd) : ∃ cdv, Taker X "_law_told" "_law_call" g nTold (defScope sTold) cdv (defBody sTold) (TTold X.K DB DT DM DR) := by
  obtain ⟨oc, od, kV, doc, pm, an, cdv, ct, osl, e, lk, hcd⟩ := R.F.ex
  have hb := R.b
  rw [e] at hb lk
  exact ⟨cdv, R.m, R.k, ⟨_, _, _, _, _, _, _, _, _, _, lk, hb⟩, hcd, scTd, rfl, .inl rfl, gets_told quiet room R.E R.isM R.re R.mV R.mO R.mLk⟩
end
/-- a def of the law whose code object is told -/
structure FunC (K : PySem.W.Frag) (x qual : Str) (st : Stmt) (f : Addr) (fd : FuncData) (c : Addr) : Prop where
  ex : ∃ (oc : Value) (od : Option Addr) (kV doc pm : Value) (an : Option Addr) (ct : Value) (osl : Array (Option Value)),
    fd = PySem.W.fnOf x qual (defArgs st) (defBody st) (defScope st) .none kV doc pm an (.ref c) ct ∧ K.lookup f = some ⟨oc, od, .func fd, osl⟩ ∧ PySem.W.codeIn K (.ref c) qual = true
/-- the name under which the def's lambdas go -/
def lamQ (x : Str) (st : Stmt) : Str := (envOfC x (defScope st) 0 0 .none).qual ++ "<lambda>"
section
variable {P : Program} {w : World} {K : PySem.W.Frag} {mg : Str → Option Value} {base : Heap} {CX : CXT} {k : Nat} {f c : Addr} {fd : FuncData} {N ps : List Str} {sp : Sp}
/-- such a def, called where no repr is under way -/
theorem FunC.atG {x qual : Str} {st : Stmt} (F : FunC K x qual st f fd c) (S : FnScope N ps (defScope st)) (len : ∀ vs H Q E, sp vs H Q E → vs.length = ps.length)
    (body : ∀ (A : Around) (outer : List Env) (s : Shared) (H : Hp) (vs : List V) (Q : VK) (E : XK), A.guards = some [] → Room k (A.deeper (envOfC qual (defScope st) s.heap.objs.size f (.ref c))) → sp vs H Q E →
      ∃ t, PSs (cxOf CX P w K mg base N qual (defScope st) f (.ref c) A outer s H E).nox (defBody st) t ∧ t { nx := fun _ H' => Q .non H', rt := Q } (start N vs) H) :
    AtG P w K mg base CX (k + 1) f fd ps sp := by
  obtain ⟨oc, od, kV, doc, pm, an, ct, osl, rfl, lk, hcd⟩ := F.ex
  refine ⟨len, fun A outer s H args us vs Q E quiet room env bind rel want => ?_⟩
  have count := len _ _ _ _ want
  have inn : K.In s.heap := env.mod.kin.keeps fun b o e => (env.bs b o e).1
  have lim : s.heap.NoLimit := env.mod.nolimit.keeps fun b o e => (env.bs b o e).1
  have kinds : ∀ y ∈ ps.zip us, (defScope st).names.lookup y.1 = some .local ∨ ((defScope st).names.lookup y.1 = some .cell ∧ ((cellsFrom (s.heap.objs.size + 1) (defScope st).names []).lookup y.1).isSome = true) := by
    intro y hy
    rcases S.par y.1 (List.of_mem_zip hy).1 with q | q
    · exact .inl q
    · exact .inr ⟨q, PySem.W.cellsFrom_some _ _ _ (.inl q)⟩
  refine codeAny_call_function room.depth (inn _ _ lk) rfl S.co S.gen rfl (PySem.W.codeRec_of inn hcd) (bind _ _ _ _ ?_)
  refine wpAny_newFunctionEnv_cells S.kind kinds fun en hen s1 entered => ?_
  subst hen
  refine ⟨lim.keeps entered.toInCall.keep, codeAny_func ?_⟩
  obtain ⟨t, der, rd⟩ := body A outer s H vs Q E quiet (room.deeper _) want
  have I0 : Inv (cxOf CX P w K mg base N qual (defScope st) f (.ref c) A outer s H E) [] (start N vs) H s1 := inv_start S room.hd env count rel entered
  refine wpAny_mono (der.nox.run [] s1 (start N vs) H _ I0 rd) (fun flow s' res => ?_) fun _ _ res => res
  cases flow with
  | ret u =>
    obtain ⟨v, σ', H', J, rv, q⟩ := res
    exact ⟨v, H', J.os, J.bare, J.base, J.hok, rv, q⟩
  | next =>
    obtain ⟨σ', H', J, q⟩ := res
    exact ⟨V.non, H', J.os, J.bare, J.base, J.hok, rfl, q⟩
  | brk =>
    obtain ⟨_, _, _, no⟩ := res
    exact no.elim
  | cont =>
    obtain ⟨_, _, _, no⟩ := res
    exact no.elim
end
end LA
end
section
set_option Elab.async false
set_option linter.all false
set_option maxRecDepth 100000
set_option maxHeartbeats 4100000
namespace LA
open PySem L2 XS XT LM XK XL LamX XO
abbrev sGreat : Stmt := top 38
abbrev sIsRow : Stmt := top 40
abbrev sIsNumL : Stmt := top 41
abbrev sRows : Stmt := top 44
/-! ### what stays: all but the pen's dict and the tables -/
def Bx (d : Addr) (H H' : Hp) : Prop := ∀ b o, H b = some o → b ≠ d → (∀ ps, o ≠ .tbl ps) → H' b = some o
theorem Bx.refl {d : Addr} {H : Hp} : Bx d H H := fun _ _ e _ _ => e
theorem Bx.trans {d : Addr} {H H1 H2 : Hp} (a : Bx d H H1) (b : Bx d H1 H2) : Bx d H H2 := fun c o e n t => b c o (a c o e n t) n t
theorem Bx.same {d : Addr} {H H' : Hp} (s : Same H H') : Bx d H H' := fun b o e _ _ => s b o e
theorem Bx.but {d : Addr} {H H' : Hp} (s : But d H H') : Bx d H H' := fun b o e n _ => s b o e n
theorem Bx.ext {d : Addr} {H H' : Hp} (s : ExtN H H') : Bx d H H' := fun b o e _ t => s b o e t
theorem Keeps.bx {d : Addr} {H H' : Hp} (b : Bx d H H') : Keeps (fun a => a ≠ d) H H' := fun a o n e t => b a o e n t
theorem Dz.bx {d : Addr} {H H' : Hp} (b : Bx d H H') {v : V} {e : PyData} (h : Dz (fun a => a ≠ d) H v e) : Dz (fun a => a ≠ d) H' v e := h.keep (Keeps.bx b) (fun _ z => z) e v
theorem BkE.bx {d : Addr} {H H' : Hp} (b : Bx d H H') {k : Bk Str} {v : V} (h : BkE (fun a => a ≠ d) H k v) : BkE (fun a => a ≠ d) H' k v := h.keep (Keeps.bx b) (fun _ z => z)
theorem LT.bx {C d : Addr} {H H' : Hp} {kvs : List (Key × V)} (b : Bx d H H') (hd : H d = some (.dK kvs)) {bs : List (Bk Str)} {v : V} (h : LT C H bs v) : LT C H' bs v := by
  obtain ⟨a, dx, t, us, e, h1, h2, h3⟩ := h
  have k1 : ∀ {c : Addr} {xs : List V}, H c = some (.tup xs) → H' c = some (.tup xs) := fun {c xs} e => b _ _ e (fun z => by rw [z, hd] at e; cases e) (fun _ z => by cases z)
  refine ⟨a, dx, t, us, e, b _ _ h1 (fun z => by rw [z, hd] at h1; cases h1) (fun _ z => by cases z), k1 h2, L2.Paired.mapP h3 fun _ _ z => ?_⟩
  obtain ⟨t, a, e, g1, g2⟩ := z
  exact ⟨t, a, e, k1 g1, k1 g2⟩
theorem PenAt.dict {H : Hp} {d c : Addr} {n : Int} {ns : List Int} (p : PenAt H d c n ns) : ∃ kvs, H d = some (.dK kvs) := by
  obtain ⟨kvs, _, _, q⟩ := p
  exact ⟨kvs, q.dc⟩
theorem PenAt.extN {H H' : Hp} {d c : Addr} {n : Int} {ns : List Int} (p : PenAt H d c n ns) (e : ExtN H H') : PenAt H' d c n ns := by
  obtain ⟨kvs, t, l, q⟩ := p
  exact ⟨kvs, t, l, ⟨e _ _ q.dc (fun ps z => by cases z), q.vc, q.vt, q.vl, q.t0, q.tn, q.sz, e _ _ q.cs (fun ps z => by cases z), q.cl⟩⟩
theorem PenAt.le {H : Hp} {d c : Addr} {n m : Int} {ns : List Int} (p : PenAt H d c n ns) (h : n ≤ m) : PenAt H d c m ns := by
  obtain ⟨kvs, t, l, q⟩ := p
  exact q.more h
theorem Tabs.same {T : List (Addr × Str)} {H H' : Hp} (t : Tabs T H) (s : Same H H') : Tabs T H' := t.ext s
theorem Tabs.but {T : List (Addr × Str)} {H H' : Hp} {d : Addr} {kvs : List (Key × V)} (t : Tabs T H) (b : But d H H') (hd : H d = some (.dK kvs)) : Tabs T H' := fun p hp => by
  obtain ⟨ps, a1, a2, a3⟩ := t p hp
  refine ⟨ps, b _ _ a1 (ne_of a1 hd (by intro z; cases z)), a2, fun pos cv hc => ?_⟩
  obtain ⟨c, e1, e2⟩ := a3 pos cv hc
  exact ⟨c, e1, b _ _ e2 (ne_of e2 hd (by intro z; unfold CodeO at z; cases z))⟩
theorem Tabs.putL {T : List (Addr × Str)} {H : Hp} {L : Addr} {xs : List V} {o : HO} (t : Tabs T H) (h : H L = some (.lst xs)) : Tabs T (upd H L o) := fun p hp => by
  obtain ⟨ps, a1, a2, a3⟩ := t p hp
  refine ⟨ps, ?_, a2, fun pos cv hc => ?_⟩
  · rw [upd_ne (ne_of a1 h (by intro z; cases z))]
    exact a1
  · obtain ⟨c, e1, e2⟩ := a3 pos cv hc
    refine ⟨c, e1, ?_⟩
    rw [upd_ne (ne_of e2 h (by intro z; unfold CodeO at z; cases z))]
    exact e2
/-! ### great -/
abbrev DrawAt (P : Program) (w : World) (K : PySem.W.Frag) (mg : Str → Option Value) (base : Heap) (f : Addr) (fd : FuncData) : Prop := CallOf P w K mg base 1 "_law_draw" ["_law_pen_here", "_law_span"] spDraw f fd
theorem ten_le {i : Nat} (h : i ≤ 31) : 10 ^ i ≤ 10 ^ 31 := Nat.pow_le_pow_right (by decide) h
section
variable {P : Program} {w : World} {K : PySem.W.Frag} {mg : Str → Option Value} {base : Heap} {C : Addr}
/-- great: a number of at most k digits -/
def spGreat : Sp := fun vs H Q _ => ∃ (d c : Addr) (n : Int) (ns : List Int) (k : Nat), vs = [.ref d, .int (k : Int)] ∧ PenAt H d c n ns ∧ n + k < 1000000 ∧ k ≤ 31 ∧
  ∀ (r : Nat) (H' : Hp), r < 10 ^ k → PenAt H' d c (n + k) ns → But d H H' → Q (.int (r : Int)) H'
theorem scGr : FnScope ["_law_pen_here", "_law_digits", "_law_found", "_law_k"] ["_law_pen_here", "_law_digits"] (defScope sGreat) := ⟨rfl, rfl, rfl, by decide +kernel, rfl, by decide +kernel, by decide +kernel⟩
theorem ok_great {f f1 : Addr} {fd fd1 : FuncData} (F : Fun K "_law_great" "_law_great" sGreat f fd) (mR : mg "range" = none) (DR : DrawAt P w K mg base f1 fd1) : FnOk P w K mg base CX0 2 f fd ["_law_pen_here", "_law_digits"] spGreat := by
  refine F.ok scGr (fun vs H Q E h => ?_) (fun cdv A outer s H vs Q E hr h => ?_)
  · obtain ⟨d, c, n, ns, k, rfl, _⟩ := h
    rfl
  · obtain ⟨d, c, n, ns, k, rfl, pen, hn, hk, q⟩ := h
    refine ⟨_, pss_cons (by exact (ps_set (i := 2) scGr.nd rfl (.inl rfl) pe_int)) (
      pss_cons (by exact (ps_for PassesOwn.never rfl (pi_range1 rfl mR (pa_cons (pv 1) pa_nil)) (pg_name (i := 3) scGr.nd rfl (Or.inl rfl)) (
        pss_one (by exact (ps_set (i := 2) scGr.nd rfl (.inl rfl) (pe_op op_add (pe_op op_mulW pe_int (pv 2)) (pe_call DR.ok hr rfl DR.m DR.k DR.b .nil pass0 (pa_cons (pv 0) (pa_cons pe_int pa_nil))))))))) (
      pss_one (by exact (ps_ret (pv 2))))), ?_⟩
    have hk0 : (0 : Int) ≤ k := by omega
    refine ⟨_, rfl, (k : Int), rfl, by omega, by omega, for_range (lo := 0) (n := (k : Int).toNat) (fun i σ X => (∃ (x3 : Option V) (e : Int) (r : Nat), σ = [some (.ref d), some (.int k), some (.int e), x3] ∧ e = (r : Int) ∧ r < 10 ^ i) ∧ PenAt X d c (n + i) ns ∧ But d H X) ⟨⟨none, 0, 0, rfl, rfl, Nat.one_pos⟩, (by rw [show n + ((0 : Nat) : Int) = n by omega]; exact pen), But.refl⟩ (fun i σ X hi pw => ?_) (fun σ X pw => ?_)⟩
    · obtain ⟨⟨x3, e, r, rfl, rfl, hr⟩, pX, bX⟩ := pw
      have hi2 : i < k := by omega
      have r31 := Nat.lt_of_lt_of_le hr (ten_le (Nat.le_trans (Nat.le_of_lt hi2) hk))
      refine ⟨_, rfl, _, _, rfl, rfl, wide_mul (a := 4) (b := 110) (by decide) (by show r < 2 ^ 110; exact Nat.lt_of_lt_of_le r31 (by decide)) (by decide) (by decide) (by decide), ?_⟩
      refine ⟨_, rfl, d, c, n + i, ns, 10, rfl, pX, by omega, by decide, by decide, fun t X2 t0 t1 p2 b2 => ?_⟩
      refine ⟨_, _, rfl, rfl, ⟨_, _, 10 * r + t.toNat, rfl, by omega, ?_⟩, ?_, bX.trans b2⟩
      · rw [Nat.pow_succ]
        omega
      · rw [show n + ((i + 1 : Nat) : Int) = n + i + 1 by omega]
        exact p2
    · obtain ⟨⟨x3, e, r, rfl, rfl, hr⟩, pX, bX⟩ := pw
      have ek : ((k : Int).toNat) = k := by omega
      rw [ek] at pX hr
      exact ⟨_, rfl, q r X hr pX bX⟩
end
/-- lines and tuples of them stay where the pen is written -/
theorem BkL.but {d : Addr} {H H' : Hp} (n1 : ∀ xs, H d ≠ some (.tup xs)) (n2 : ∀ xs, H d ≠ some (.lst xs)) (k : But d H H') {b : Bk Str} {v : V} (h : BkL H b v) : BkL H' b v := by
  obtain ⟨t, a, e, h1, h2⟩ := h
  exact ⟨t, a, e, k _ _ h1 (fun z => n1 _ (z ▸ h1)), k _ _ h2 (fun z => n2 _ (z ▸ h2))⟩
theorem PenAt.nT {H : Hp} {d c : Addr} {n : Int} {ns : List Int} (p : PenAt H d c n ns) : ∀ xs, H d ≠ some (.tup xs) := fun xs e => by
  obtain ⟨_, _, _, q⟩ := p
  rw [q.dc] at e
  cases e
theorem PenAt.nL {H : Hp} {d c : Addr} {n : Int} {ns : List Int} (p : PenAt H d c n ns) : ∀ xs, H d ≠ some (.lst xs) := fun xs e => by
  obtain ⟨_, _, _, q⟩ := p
  rw [q.dc] at e
  cases e
theorem PenAt.keepL {H H' : Hp} {d c : Addr} {n : Int} {ns : List Int} (p : PenAt H d c n ns) (k : But d H H') {a : Addr} {xs : List V} (h : H a = some (.lst xs)) : H' a = some (.lst xs) := k _ _ h fun z => p.nL _ (z ▸ h)
theorem lineB_of {z : Str} (h : ∀ c ∈ cod z, Lt c) : lineB z = true := by
  unfold lineB
  rw [List.all_eq_true]
  exact fun c hc => decide_eq_true (h c hc)

/-! ### is_row, is_number, rows -/
theorem sgs_in : ∀ c ∈ cod sgsZ, Lt c := by decide +kernel
theorem sgs_all : ∀ c, c < 127 → Lt c → c ∈ cod sgsZ := by decide +kernel
theorem sgs_iff (c : Nat) : c ∈ cod sgsZ ↔ Lt c := ⟨sgs_in c, fun h => sgs_all c (by have := h.2.1; omega) h⟩
theorem eqv_nil (ds : List PyData) : PyData.eqv (.list ds) (.list []) = ds.isEmpty := by
  cases ds <;> rfl
theorem dp_cs {K : PySem.W.Frag} {H : Hp} : ∀ l : List Nat, DpAll K H (cs l) (l.map fun c => PyData.str (sg c))
  | [] => .nil
  | c :: r => .cons (.str (sg c)) (dp_cs r)
theorem lay_cs : ∀ l : List Nat, (∀ c ∈ l, c < 1114112) → PyData.canLayAll0 (l.map fun c => PyData.str (sg c)) = true
  | [], _ => rfl
  | c :: r, h => by
    have hc := h c
          (List.mem_cons_self ..)
    have h1 : PyData.strOk (sg c) = true := by
      show (#[c] : Array Nat).all (· < 0x110000) = true
      simp
      omega
    simp only [List.map, PyData.canLayAll0, PyData.canLay0, h1, lay_cs r (fun x hx => h x (List.mem_cons_of_mem _ hx)), Bool.and_self]
theorem deep_cs : ∀ l : List Nat, PyData.depthAll (l.map fun c => PyData.str (sg c)) = 0
  | [] => rfl
  | c :: r => by
    show max (PyData.depth (.str (sg c))) (PyData.depthAll (r.map fun c => PyData.str (sg c))) = 0
    rw [deep_cs r]
    rfl
theorem shaped_cs (l : List Nat) (h : ∀ c ∈ l, c < 1114112) : SeqAt.shaped (.list (l.map fun c => PyData.str (sg c))) = true := by
  unfold SeqAt.shaped
  have h1 : PyData.canLay0 (.list (l.map fun c => PyData.str (sg c))) = true := by
    unfold PyData.canLay0
    exact lay_cs l h
  have h2 : PyData.depth (.list (l.map fun c => PyData.str (sg c))) ≤ 64 := by
    unfold PyData.depth
    rw [deep_cs]
    decide
  rw [h1, decide_eq_true h2]
  rfl
section
variable {P : Program} {w : World} {K : PySem.W.Frag} {mg : Str → Option Value} {base : Heap}
/-- all letters, in a text -/
def spLit : Sp := fun vs H Q _ => vs = [] ∧ Q (.str sgsZ) H
theorem ok_signs {f : Addr} {fd : FuncData} (F : Fun K "_law_signs" "_law_signs" sSigns f fd) : FnOk P w K mg base CX0 1 f fd [] spLit := by
  refine F.ok scG (fun vs H Q E h => ?_) (fun cdv A outer s H vs Q E hr h => ?_)
  · obtain ⟨rfl, _⟩ := h
    rfl
  · obtain ⟨rfl, q⟩ := h
    exact ⟨_, pss_one (by exact (ps_ret pe_str)), q⟩
def rNotG : R2 := fun x y H Q => ∃ (c : Nat) (z : Str), x = .str ⟨#[c]⟩ ∧ y = .str z ∧ Q (.bl (!decide (c ∈ z.cps.toList))) H

/-- is_row of any value -/
theorem scIr : FnScope ["_law_thing", "_law_sign"] ["_law_thing"] (defScope sIsRow) := ⟨rfl, rfl, rfl, by decide +kernel, rfl, by decide +kernel, by decide +kernel⟩
theorem ok_isRow {f f1 : Addr} {fd fd1 : FuncData} (F : Fun K "_law_is_row" "_law_is_row" sIsRow f fd) (isM : mg "isinstance" = none) (mS : mg "str" = none) (M : CallOf P w K mg base 1 "_law_signs" [] spLit f1 fd1) : FnOk P w K mg base CX0 2 f fd ["_law_thing"] (spQ lineD) := by
  refine F.ok scIr (fun vs H Q E h => ?_) (fun cdv A outer s H vs Q E hr h => ?_)
  · obtain ⟨N, v, d, rfl, _⟩ := h
    rfl
  · obtain ⟨N, v, d, rfl, hv, q⟩ := h
    refine ⟨_, pss_one (by exact (ps_ret (pe_and (pe_callB call_isi (by rfl) isM (by decide +kernel) (pa_cons (pv 0) (pa_cons (pe_bltn (v := .ty "str") (by rfl) mS (by decide +kernel) rfl) pa_nil))) (pe_one (pe_cmpR (op_eqD hr.units) (pe_lc (own := [("_law_sign", 1)]) (g := gName 1) (tt := tTest (tOp rNotG (tVar 1) (tCall spLit [] (fun _ _ _ => False) tNil))) (te := tVar 1) rfl scIr.nd (pi_str (pv 0))
        (blkOk_by (N := ["_law_thing", "_law_sign"]) (sc := defScope sIsRow) (by decide +kernel))
        (fun _ _ _ _ _ => by exact (pg_name (i := 1) scIr.nd rfl (Or.inl rfl)))
        (fun _ _ _ _ _ => by exact (pts_one (pt_cmpR op_notIn_sign (pv 1) (pe_call0 M.ok hr rfl M.m M.k M.b .nil pass0) (by rfl))))
        (fun _ _ _ _ _ => by exact (pv 1))) (pe_lst pa_nil) (nomark _)))))), ?_⟩
    refine ⟨_, rfl, _, _, _, _, _, rfl, .ty _, hv.ty, kit_ty (kn_str _ (tyD_in d)), _, rfl, ?_⟩
    cases et : (tyD d == "str") with
    | false =>
      have l0 : lineD d = false := by
        cases d <;> first | rfl | (simp [tyD] at et; done)
      have z := q H (fun _ _ e => e)
      rw [l0] at z
      exact iteF z
    | true =>
    obtain ⟨z, rfl, rfl, okz⟩ : ∃ z, v = .str z ∧ d = .str z ∧ OkS z := by
      cases hv <;> first | (simp [tyD] at et; done) | exact ⟨_, rfl, rfl, by assumption⟩
    have small : z.length < 1000 := Nat.lt_of_le_of_lt okz.few (by decide)
    have ch := okz.ch
    have q : ∀ H', Same H H' → Q (.bl (lineB z)) H' := q
    refine iteT ?_
    refine ⟨_, rfl, z, rfl, fun D nD => ?_⟩
    refine lc_it walk_str (fun i G => G D = some (.lst (cs (((cod z).take i).filter fun c => !decide (c ∈ cod sgsZ)))) ∧ Same H G) ⟨upd_same, same_upd nD⟩ (fun _ _ _ _ => True.intro) (fun i x G G' hi p yl => ?_) (fun G p => ?_)
    · obtain ⟨pD, pS⟩ := p
      obtain ⟨rfl, c, hc, rfl⟩ := yl
      have hc2 : (cod z)[i]? = some c := by
        show z.cps.toList[i]? = some c
        rw [Array.getElem?_toList]
        exact hc
      refine ⟨rfl, ?_⟩
      refine ⟨_, rfl, rfl, c, sgsZ, rfl, rfl, ?_⟩
      have ext : ((cod z).take (i + 1)).filter (fun c => !decide (c ∈ cod sgsZ)) = ((cod z).take i).filter (fun c => !decide (c ∈ cod sgsZ)) ++ (if (!decide (c ∈ cod sgsZ)) = true then [c] else []) := by
        rw [List.take_succ, hc2, List.filter_append]
        congr 1
        show List.filter _ [c] = _
        rw [List.filter_cons]
        split <;> rfl
      refine ⟨_, rfl, ?_⟩
      have lenz : ((cod z).take i).length ≤ z.length := by
        rw [List.length_take, len_cod]
        exact Nat.min_le_right _ _
      by_cases hin : c ∈ cod sgsZ
      · rw [decide_eq_true hin, if_neg (show ¬ (!true) = true by decide), List.append_nil] at ext
        rw [decide_eq_true hin]
        show (if (!true) = true then _ else _)
        rw [if_neg (show ¬ (!true) = true by decide), ext]
        exact ⟨pD, pS⟩
      · rw [decide_eq_false hin, if_pos (show (!false) = true by decide)] at ext
        rw [decide_eq_false hin]
        show (if (!false) = true then _ else _)
        rw [if_pos (show (!false) = true by decide)]
        refine ⟨_, rfl, _, pD, ?_, ?_, ?_⟩
        · show (cs _).length < _
          unfold cs
          rw [List.length_map]
          exact Nat.lt_of_le_of_lt (Nat.le_trans (List.length_filter_le _ _) lenz) (Nat.lt_trans small (by decide))
        · rw [ext]
          show _ = some (HO.lst (cs (_ ++ [c])))
          unfold cs
          rw [List.map_append]
          exact upd_same
        · intro b o e
          rw [upd_ne]
          · exact pS b o e
          · exact ne_of_none e nD
    · obtain ⟨pD, pS⟩ := p
      have all_ : (cod z).take z.cps.size = cod z := List.take_of_length_le (by rw [len_cod]; exact Nat.le_refl _)
      rw [all_] at pD
      refine ⟨(by show 0 ≤ sizeLine; decide), fun p np => ?_⟩
      generalize hR : (cod z).filter (fun c => !decide (c ∈ cod sgsZ)) = R at pD
      have okR : ∀ c ∈ R, c < 1114112 := fun c hc => ch c (by rw [← hR] at hc; exact (List.mem_filter.mp hc).1)
      refine ⟨_, .list [], .lst (SqL.of ((same_upd np) _ _ pD)) (dp_cs R), .lst (SqL.of upd_same) .nil, shaped_cs R okR, by decide +kernel, ?_⟩
      rw [eqv_nil]
      have e : (R.map fun c => PyData.str (sg c)).isEmpty = lineB z := by
        rw [← hR]
        unfold lineB
        cases hl : (cod z).all (fun c => decide (Lt c)) with
        | true =>
          have n0 : (cod z).filter (fun c => !decide (c ∈ cod sgsZ)) = [] := by
            rw [List.filter_eq_nil_iff]
            intro c hc
            have := of_decide_eq_true (List.all_eq_true.mp hl c hc)
            rw [decide_eq_true ((sgs_iff c).mpr this)]
            decide
          rw [n0]
          rfl
        | false =>
          obtain ⟨c, hc, nc⟩ := List.all_eq_false.mp hl
          have nl : ¬ Lt c := fun z => nc (decide_eq_true z)
          have m : c ∈ (cod z).filter (fun c => !decide (c ∈ cod sgsZ)) := List.mem_filter.mpr ⟨hc, by rw [decide_eq_false fun z => nl ((sgs_iff c).mp z)]; rfl⟩
          cases hF : (cod z).filter (fun c => !decide (c ∈ cod sgsZ)) with
          | nil =>
            rw [hF] at m
            cases m
          | cons x r => rfl
      rw [e]
      exact q _ (pS.trans (same_upd np))
/-- is_number of the law -/
theorem scNl : FnScope ["_law_thing", "_law_low", "_law_high"] ["_law_thing", "_law_low", "_law_high"] (defScope sIsNumL) := ⟨rfl, rfl, rfl, by decide +kernel, rfl, by decide +kernel, by decide +kernel⟩
theorem ok_isNumL {f : Addr} {fd : FuncData} (F : Fun K "_law_is_number" "_law_is_number" sIsNumL f fd) (isM : mg "isinstance" = none) (mI : mg "int" = none) (mB : mg "bool" = none) : FnOk P w K mg base CX0 1 f fd ["_law_thing", "_law_low", "_law_high"] spNum := by
  refine F.ok scNl (fun vs H Q E h => ?_) (fun cdv A outer s H vs Q E hr h => ?_)
  · obtain ⟨N, v, d, l, g, rfl, _⟩ := h
    rfl
  · obtain ⟨N, v, d, l, g, rfl, hv, q⟩ := h
    refine ⟨_, pss_one (by exact (ps_ret (pe_and (pe_callB call_isi (by rfl) isM (by decide +kernel) (pa_cons (pv 0) (pa_cons (pe_bltn (v := .ty "int") (by rfl) mI (by decide +kernel) rfl) pa_nil))) (pe_and (pe_not (pe_callB call_isi (by rfl) isM (by decide +kernel) (pa_cons (pv 0) (pa_cons (pe_bltn (v := .ty "bool") (by rfl) mB (by decide +kernel) rfl) pa_nil)))) (pe_one (pe_chain op_le op_le (pv 1) (pv 0) (pv 2))))))), ?_⟩
    refine ⟨_, rfl, _, _, _, _, _, rfl, .ty _, hv.ty, kit_ty (kn_int _ (tyD_in d)), _, rfl, ?_⟩
    have q0 := q H (fun _ _ z => z)
    cases e : intD d with
    | none =>
      have n0 : numD d l g = false := by unfold numD; rw [e]
      rw [n0] at q0
      cases e1 : (tyD d == "int" || tyD d == "bool") with
      | false => exact iteF q0
      | true =>
        refine iteT ⟨_, rfl, _, _, _, _, _, rfl, .ty _, hv.ty, kit_ty (kn_bool _ (tyD_in d)), _, rfl, ?_⟩
        have e2 : (tyD d == "bool") = true := by
          cases d <;> first | rfl | (simp [tyD] at e1; done) | cases e
        rw [e2]
        exact ⟨_, rfl, iteF q0⟩
    | some k =>
      obtain rfl := hv.int_ e
      have n0 : numD d l g = (decide (l ≤ k) && decide (k ≤ g)) := by unfold numD; rw [e]
      have e1 : (tyD d == "int" || tyD d == "bool") = true := by
        cases d <;> first | rfl | cases e
      have e2 : (tyD d == "bool") = false := by
        cases d <;> first | rfl | cases e
      rw [n0] at q0
      rw [e1]
      refine iteT ⟨_, rfl, _, _, _, _, _, rfl, .ty _, hv.ty, kit_ty (kn_bool _ (tyD_in d)), _, rfl, ?_⟩
      rw [e2]
      refine ⟨_, rfl, iteT ⟨_, rfl, _, rfl, _, _, rfl, rfl, _, rfl, ?_⟩⟩
      cases e3 : decide (l ≤ k) with
      | false =>
        rw [e3] at q0
        exact iteF q0
      | true =>
        rw [e3] at q0
        exact iteT ⟨_, rfl, _, _, rfl, rfl, q0⟩
end
end LA
end
section
set_option Elab.async false
set_option linter.all false
set_option maxRecDepth 100000
set_option maxHeartbeats 4100000
namespace LA
open PySem L2 XS XT LM XK XL LamX XO
abbrev sAny : Stmt := top 45
theorem same_upd2 {H : Hp} {p : Addr} {o u : HO} (hp : H p = none) : Same H (upd (upd H p o) p u) := by
  rw [upd_upd]
  exact same_upd hp
/-! ### values of which repr is asked -/
mutual
theorem Dz.dp {K : PySem.W.Frag} {N : Addr → Prop} {H : Hp} : ∀ (d : PyData) (v : V), Dz N H v d → d.hasDict = false → Dp K H v d
  | .none, _, h, _ => by cases h; exact .non
  | .bool _, _, h, _ => by cases h; exact .bl _
  | .int _, _, h, _ => by cases h; exact .int _
  | .str _, _, h, _ => by cases h; exact .str _
  | .list ds, _, h, n => by
    unfold PyData.hasDict at n
    cases h with
    | lst _ a _ r => exact .lst (SqL.of a) (DzAll.dps ds _ r n)
  | .tuple ds, _, h, n => by
    unfold PyData.hasDict at n
    cases h with
    | tup _ a _ r => exact .tup (.inl (.inl a)) (DzAll.dps ds _ r n)
  | .dict _, _, h, n => by
    unfold PyData.hasDict at n
    cases n
theorem DzAll.dps {K : PySem.W.Frag} {N : Addr → Prop} {H : Hp} : ∀ (ds : List PyData) (vs : List V), DzAll N H vs ds → PyData.hasDictAll ds = false → DpAll K H vs ds
  | [], _, h, _ => by cases h; exact .nil
  | d :: ds, _, h, n => by
    unfold PyData.hasDictAll at n
    rw [Bool.or_eq_false_iff] at n
    cases h with
    | cons a r => exact .cons (Dz.dp d _ a n.1) (DzAll.dps ds _ r n.2)
end
def dxOk : PyData → Bool
  | .dict _ => true
  | d => !d.hasDict
theorem Dz.dx {K : PySem.W.Frag} {N : Addr → Prop} {H : Hp} {v : V} {d : PyData} (h : Dz N H v d) (ok : dxOk d = true) : DX K H v d := by
  cases d with
  | dict kvs =>
    cases h with
    | emp _ e => exact .dc (ks := []) (vs := []) e .nil .nil rfl rfl
    | one _ e => exact .dc (ks := [.str "a"]) (vs := [.str "b"]) e (.cons (.str _) .nil) (.cons (.str _) .nil) rfl rfl
  | _ => exact .dp (Dz.dp _ _ h (by simpa [dxOk] using ok))
/-- repr of it, alone and told -/
structure Fine (d : PyData) : Prop where
  ok : dxOk d = true
  sh : Shows d
  out : Shows (.tuple [.str "out", .str d.shown, .bool true])
  txt : PyData.strOk d.shown = true
theorem shows_of {d : PyData} (sh : d.showable = true) (lf : d.leavesShort 8 = true) (w : d.weight ≤ 2 ^ 20) (dp : d.depth ≤ 60) : Shows d := ⟨sh, PyData.shown_fits (Nat.le_refl _) (by decide) lf w, dp⟩
theorem big_int {k : Int} (h : k.natAbs < 2 ^ 200) : k.natAbs.log2 < 1920 := Nat.lt_trans (PySem.Flt.log2_lt_of (k := 200) (by decide) h) (by decide)
theorem len_shown_int {k : Int} (h : k.natAbs < 2 ^ 200) : (PyData.shown (.int k)).length ≤ 1921 := by
  rw [PyData.shown_int]
  exact PyProof.Rows.int_text_len_1921 (big_int h)
theorem cods_int (k : Int) : ∀ c ∈ (PyData.shown (.int k)).cps.toList, c < 58 := fun c hc => by
  refine Decidable.byContradiction fun z => ?_
  exact absurd hc (PyProof.Rows.shown_int_free' ⟨by omega, .inr (by omega)⟩ k)
theorem fine_int {k : Int} (h : k.natAbs < 2 ^ 200) : Fine (.int k) := by
  have l := len_shown_int h
  have c := cods_int k
  refine ⟨rfl, ⟨decide_eq_true (big_int h), Nat.le_trans l (by decide), Nat.zero_le _⟩, shows_of rfl ?_ ?_ (by simp [PyData.depth, PyData.depthAll]), ?_⟩
  · simp only [PyData.leavesShort, PyData.leavesShortAll, Bool.and_true, Bool.and_eq_true, List.all_eq_true]
    exact ⟨by decide, fun x hx => decide_eq_true (Nat.lt_trans (c x hx) (by decide))⟩
  · simp only [PyData.weight, PyData.weightAll]
    have e : (PyData.shown (.int k)).cps.size = (PyData.shown (.int k)).length := rfl
    rw [e]
    have e3 : (PySem.Str.ofString "out").cps.size = 3 := by decide +kernel
    rw [e3]
    exact Nat.le_trans (show _ ≤ 2000 by omega) (by decide)
  · show ((PyData.shown (.int k)).cps.all (· < 0x110000)) = true
    rw [Array.all_eq_true]
    intro i hi
    exact decide_eq_true (Nat.lt_trans (c _ (Array.mem_toList_iff.mpr (Array.getElem_mem hi))) (by decide))
theorem fw0 : Fine (.none) := ⟨by decide +kernel, ⟨by decide +kernel, by decide +kernel, by decide +kernel⟩, ⟨by decide +kernel, by decide +kernel, by decide +kernel⟩, by decide +kernel⟩
theorem fw1 : Fine (.bool true) := ⟨by decide +kernel, ⟨by decide +kernel, by decide +kernel, by decide +kernel⟩, ⟨by decide +kernel, by decide +kernel, by decide +kernel⟩, by decide +kernel⟩
theorem fw2 : Fine (.bool false) := ⟨by decide +kernel, ⟨by decide +kernel, by decide +kernel, by decide +kernel⟩, ⟨by decide +kernel, by decide +kernel, by decide +kernel⟩, by decide +kernel⟩
theorem fw3 : Fine (.int 0) := ⟨by decide +kernel, ⟨by decide +kernel, by decide +kernel, by decide +kernel⟩, ⟨by decide +kernel, by decide +kernel, by decide +kernel⟩, by decide +kernel⟩
theorem fw4 : Fine (.int 1) := ⟨by decide +kernel, ⟨by decide +kernel, by decide +kernel, by decide +kernel⟩, ⟨by decide +kernel, by decide +kernel, by decide +kernel⟩, by decide +kernel⟩
theorem fw5 : Fine (.int (-1)) := ⟨by decide +kernel, ⟨by decide +kernel, by decide +kernel, by decide +kernel⟩, ⟨by decide +kernel, by decide +kernel, by decide +kernel⟩, by decide +kernel⟩
theorem fw6 : Fine (.int (10 ^ (59 : Int).toNat)) := ⟨by decide +kernel, ⟨by decide +kernel, by decide +kernel, by decide +kernel⟩, ⟨by decide +kernel, by decide +kernel, by decide +kernel⟩, by decide +kernel⟩
theorem fw7 : Fine (.str "") := ⟨by decide +kernel, ⟨by decide +kernel, by decide +kernel, by decide +kernel⟩, ⟨by decide +kernel, by decide +kernel, by decide +kernel⟩, by decide +kernel⟩
theorem fw8 : Fine (.str "a") := ⟨by decide +kernel, ⟨by decide +kernel, by decide +kernel, by decide +kernel⟩, ⟨by decide +kernel, by decide +kernel, by decide +kernel⟩, by decide +kernel⟩
theorem fw9 : Fine (.str "\t") := ⟨by decide +kernel, ⟨by decide +kernel, by decide +kernel, by decide +kernel⟩, ⟨by decide +kernel, by decide +kernel, by decide +kernel⟩, by decide +kernel⟩
theorem fw10 : Fine (.str "a\n") := ⟨by decide +kernel, ⟨by decide +kernel, by decide +kernel, by decide +kernel⟩, ⟨by decide +kernel, by decide +kernel, by decide +kernel⟩, by decide +kernel⟩
theorem fw11 : Fine (.str "ab") := ⟨by decide +kernel, ⟨by decide +kernel, by decide +kernel, by decide +kernel⟩, ⟨by decide +kernel, by decide +kernel, by decide +kernel⟩, by decide +kernel⟩
theorem fw12 : Fine (.tuple []) := ⟨by decide +kernel, ⟨by decide +kernel, by decide +kernel, by decide +kernel⟩, ⟨by decide +kernel, by decide +kernel, by decide +kernel⟩, by decide +kernel⟩
theorem fw13 : Fine (.tuple [.str "a"]) := ⟨by decide +kernel, ⟨by decide +kernel, by decide +kernel, by decide +kernel⟩, ⟨by decide +kernel, by decide +kernel, by decide +kernel⟩, by decide +kernel⟩
theorem fw14 : Fine (.list [.str "a", .str "b"]) := ⟨by decide +kernel, ⟨by decide +kernel, by decide +kernel, by decide +kernel⟩, ⟨by decide +kernel, by decide +kernel, by decide +kernel⟩, by decide +kernel⟩
theorem fw15 : Fine (.dict []) := ⟨by decide +kernel, ⟨by decide +kernel, by decide +kernel, by decide +kernel⟩, ⟨by decide +kernel, by decide +kernel, by decide +kernel⟩, by decide +kernel⟩
theorem fw16 : Fine (.list [.int 1]) := ⟨by decide +kernel, ⟨by decide +kernel, by decide +kernel, by decide +kernel⟩, ⟨by decide +kernel, by decide +kernel, by decide +kernel⟩, by decide +kernel⟩
theorem fw17 : Fine (.tuple [.str "a", .int 1]) := ⟨by decide +kernel, ⟨by decide +kernel, by decide +kernel, by decide +kernel⟩, ⟨by decide +kernel, by decide +kernel, by decide +kernel⟩, by decide +kernel⟩
theorem fw18 : Fine (.dict [(.str "a", .str "b")]) := ⟨by decide +kernel, ⟨by decide +kernel, by decide +kernel, by decide +kernel⟩, ⟨by decide +kernel, by decide +kernel, by decide +kernel⟩, by decide +kernel⟩
theorem fw19 : Fine (.str "print") := ⟨by decide +kernel, ⟨by decide +kernel, by decide +kernel, by decide +kernel⟩, ⟨by decide +kernel, by decide +kernel, by decide +kernel⟩, by decide +kernel⟩
theorem fw20 : Fine (.str (Txt.mul "a" 9)) := ⟨by decide +kernel, ⟨by decide +kernel, by decide +kernel, by decide +kernel⟩, ⟨by decide +kernel, by decide +kernel, by decide +kernel⟩, by decide +kernel⟩
theorem fw21 : Fine (.str (Txt.mul "a" 21)) := ⟨by decide +kernel, ⟨by decide +kernel, by decide +kernel, by decide +kernel⟩, ⟨by decide +kernel, by decide +kernel, by decide +kernel⟩, by decide +kernel⟩
theorem fw22 : Fine (.tuple [.str "a\tb"]) := ⟨by decide +kernel, ⟨by decide +kernel, by decide +kernel, by decide +kernel⟩, ⟨by decide +kernel, by decide +kernel, by decide +kernel⟩, by decide +kernel⟩
theorem fw23 : Fine (.list [.list [.str "a"]]) := ⟨by decide +kernel, ⟨by decide +kernel, by decide +kernel, by decide +kernel⟩, ⟨by decide +kernel, by decide +kernel, by decide +kernel⟩, by decide +kernel⟩
theorem fw24 : Fine (.tuple [.int 0, .int 1]) := ⟨by decide +kernel, ⟨by decide +kernel, by decide +kernel, by decide +kernel⟩, ⟨by decide +kernel, by decide +kernel, by decide +kernel⟩, by decide +kernel⟩
theorem fw25 : Fine (.str "aa") := ⟨by decide +kernel, ⟨by decide +kernel, by decide +kernel, by decide +kernel⟩, ⟨by decide +kernel, by decide +kernel, by decide +kernel⟩, by decide +kernel⟩
theorem fw26 : Fine (.list []) := ⟨by decide +kernel, ⟨by decide +kernel, by decide +kernel, by decide +kernel⟩, ⟨by decide +kernel, by decide +kernel, by decide +kernel⟩, by decide +kernel⟩
theorem fw27 : Fine (.tuple [.str "number", .int 1]) := ⟨by decide +kernel, ⟨by decide +kernel, by decide +kernel, by decide +kernel⟩, ⟨by decide +kernel, by decide +kernel, by decide +kernel⟩, by decide +kernel⟩
theorem oks (z : Str) (l : z.length ≤ 30) (c : (cod z).all (fun c => decide (c < 1114112)) = true) : OkS z := ⟨l, fun k hk => of_decide_eq_true (List.all_eq_true.mp c k hk)⟩
theorem all_any {N : Addr → Prop} {H : Hp} {t1 t2 l3 d4 l5 t6 t8 l9 l10 t11 l12 t13 d7 : Addr} (f_t1 : H t1 = some (.tup [])) (f_t2 : H t2 = some (.tup [.str "a"])) (f_l3 : H l3 = some (.lst [.str "a", .str "b"])) (f_d4 : H d4 = some (.dK [])) (f_l5 : H l5 = some (.lst [.int 1])) (f_t6 : H t6 = some (.tup [.str "a", .int 1])) (f_t8 : H t8 = some (.tup [.str "a\tb"])) (f_l9 : H l9 = some (.lst [.str "a"])) (f_l10 : H l10 = some (.lst [.ref l9])) (f_t11 : H t11 = some (.tup [.int 0, .int 1])) (f_l12 : H l12 = some (.lst [])) (f_t13 : H t13 = some (.tup [.str "number", .int 1])) (f_d7 : H d7 = some (.dK [(Sum.inr "a", .str "b")])) (n_t1 : N t1) (n_t2 : N t2) (n_l3 : N l3) (n_d4 : N d4) (n_l5 : N l5) (n_t6 : N t6) (n_t8 : N t8) (n_l9 : N l9) (n_l10 : N l10) (n_t11 : N t11) (n_l12 : N l12) (n_t13 : N t13) (n_d7 : N d7) :
    ∀ v ∈ ([.non, .bl true, .bl false, .int 0, .int 1, .int (-1), .int (10 ^ (59 : Int).toNat), .str "", .str "a", .str "\t", .str "a\n", .str "ab", .ref t1, .ref t2, .ref l3, .ref d4, .ref l5, .ref t6, .ref d7, .str "print", .str (Txt.mul "a" 9), .str (Txt.mul "a" 21), .ref t8, .ref l10, .ref t11, .str "aa", .ref l12, .ref t13] : List V), ∃ e, Dz N H v e ∧ Fine e := by
  have sA : Dz N H (.str "a") (.str "a") := .str (oks _ (by decide +kernel) (by decide +kernel))
  have sB : Dz N H (.str "b") (.str "b") := .str (oks _ (by decide +kernel) (by decide +kernel))
  have sT : Dz N H (.str "a\tb") (.str "a\tb") := .str (oks _ (by decide +kernel) (by decide +kernel))
  have sN : Dz N H (.str "number") (.str "number") := .str (oks _ (by decide +kernel) (by decide +kernel))
  intro v hv
  simp only [List.mem_cons, List.not_mem_nil, or_false] at hv
  rcases hv with rfl | rfl | rfl | rfl | rfl | rfl | rfl | rfl | rfl | rfl | rfl | rfl | rfl | rfl | rfl | rfl | rfl | rfl | rfl | rfl | rfl | rfl | rfl | rfl | rfl | rfl | rfl | rfl
  · exact ⟨_, .non, fw0⟩
  · exact ⟨_, .bl _, fw1⟩
  · exact ⟨_, .bl _, fw2⟩
  · exact ⟨_, .int _, fw3⟩
  · exact ⟨_, .int _, fw4⟩
  · exact ⟨_, .int _, fw5⟩
  · exact ⟨_, .int _, fw6⟩
  · exact ⟨_, .str (oks _ (by decide +kernel) (by decide +kernel)), fw7⟩
  · exact ⟨_, .str (oks _ (by decide +kernel) (by decide +kernel)), fw8⟩
  · exact ⟨_, .str (oks _ (by decide +kernel) (by decide +kernel)), fw9⟩
  · exact ⟨_, .str (oks _ (by decide +kernel) (by decide +kernel)), fw10⟩
  · exact ⟨_, .str (oks _ (by decide +kernel) (by decide +kernel)), fw11⟩
  · exact ⟨_, .tup n_t1 f_t1 (by decide) .nil, fw12⟩
  · exact ⟨_, .tup n_t2 f_t2 (by decide) (.cons sA .nil), fw13⟩
  · exact ⟨_, .lst n_l3 f_l3 (by decide) (.cons sA (.cons sB .nil)), fw14⟩
  · exact ⟨_, .emp n_d4 f_d4, fw15⟩
  · exact ⟨_, .lst n_l5 f_l5 (by decide) (.cons (.int _) .nil), fw16⟩
  · exact ⟨_, .tup n_t6 f_t6 (by decide) (.cons sA (.cons (.int _) .nil)), fw17⟩
  · exact ⟨_, .one n_d7 f_d7, fw18⟩
  · exact ⟨_, .str (oks _ (by decide +kernel) (by decide +kernel)), fw19⟩
  · exact ⟨_, .str (oks _ (by decide +kernel) (by decide +kernel)), fw20⟩
  · exact ⟨_, .str (oks _ (by decide +kernel) (by decide +kernel)), fw21⟩
  · exact ⟨_, .tup n_t8 f_t8 (by decide) (.cons sT .nil), fw22⟩
  · exact ⟨_, .lst n_l10 f_l10 (by show 1 ≤ 1000; decide) (.cons (.lst n_l9 f_l9 (by decide) (.cons sA .nil)) .nil), fw23⟩
  · exact ⟨_, .tup n_t11 f_t11 (by decide) (.cons (.int _) (.cons (.int _) .nil)), fw24⟩
  · exact ⟨_, .str (oks _ (by decide +kernel) (by decide +kernel)), fw25⟩
  · exact ⟨_, .lst n_l12 f_l12 (by decide) .nil, fw26⟩
  · exact ⟨_, .tup n_t13 f_t13 (by decide) (.cons sN (.cons (.int _) .nil)), fw27⟩
section
variable {P : Program} {w : World} {K : PySem.W.Frag} {mg : Str → Option Value} {base : Heap}
def spAny : Sp := fun vs H Q _ => ∃ (d c : Addr) (n : Int) (ns : List Int), vs = [.ref d] ∧ PenAt H d c n ns ∧ n < 1000000 ∧ ∀ (v : V) (e : PyData) (H' : Hp), Dz (fun a => a ≠ d ∧ H a = none) H' v e → Fine e → PenAt H' d c (n + 1) ns → But d H H' → Q v H'
theorem scA : FnScope ["_law_pen_here", "_law_some_here"] ["_law_pen_here"] (defScope sAny) := ⟨rfl, rfl, rfl, by decide +kernel, rfl, by decide +kernel, by decide +kernel⟩
theorem ok_any {f fP : Addr} {fd fdP : FuncData} (F : Fun K "_law_any_value" "_law_any_value" sAny f fd) (M : PickAt P w K mg base fP fdP) :
    FnOk P w K mg base CX0 3 f fd ["_law_pen_here"] spAny := by
  refine F.ok scA (fun vs H Q E h => ?_) (fun cdv A outer s H vs Q E hr h => ?_)
  · obtain ⟨d, c, n, ns, rfl, _⟩ := h
    rfl
  · obtain ⟨d, c, n, ns, rfl, pen, hn, k⟩ := h
    have hr2 : Room 2 _ := hr.mono (by decide)
    refine ⟨_, pss_cons (by exact (ps_set (i := 1) scA.nd rfl (.inl rfl) (pe_lst (pa_cons pe_non (pa_cons pe_bl (pa_cons pe_bl (pa_cons pe_int (pa_cons pe_int (pa_cons (pe_un un_neg pe_int) (pa_cons (pe_op op_pow pe_int pe_int) (pa_cons pe_str (pa_cons pe_str (pa_cons pe_str (pa_cons pe_str (pa_cons pe_str (pa_cons (pe_tup pa_nil) (pa_cons (pe_tup (pa_cons pe_str pa_nil)) (pa_cons (pe_lst (pa_cons pe_str (pa_cons pe_str pa_nil))) (pa_cons pe_dnewK (pa_cons (pe_lst (pa_cons pe_int pa_nil)) pa_nil))))))))))))))))))))
      (pss_cons (by exact (ps_set (i := 1) scA.nd rfl (.inl rfl) (pe_op op_cat (pv 1) (pe_lst (pa_cons (pe_tup (pa_cons pe_str (pa_cons pe_int pa_nil))) (pa_cons (pe_disp (pps_cons pe_str pe_str pps_nil) (by rfl) (by rfl) (fun z => by cases z) (by decide)) (pa_cons pe_str (pa_cons (pe_op op_mul_str pe_str pe_int) (pa_cons (pe_op op_mul_str pe_str pe_int) (pa_cons (pe_tup (pa_cons pe_str pa_nil)) (pa_cons (pe_lst (pa_cons (pe_lst (pa_cons pe_str pa_nil)) pa_nil)) (pa_cons (pe_tup (pa_cons pe_int (pa_cons pe_int pa_nil))) (pa_cons pe_str (pa_cons (pe_lst pa_nil) pa_nil))))))))))))))
      (pss_one (by exact (ps_ret (pe_call M.ok hr2 rfl M.m M.k M.b .nil pass0 (pa_cons (pv 0) (pa_cons (pe_op op_cat (pv 1) (pe_lst (pa_cons (pe_tup (pa_cons pe_str (pa_cons pe_int pa_nil))) pa_nil))) pa_nil))))))), ?_⟩
    refine ⟨_, rfl, _, _, rfl, rfl, ⟨by decide, by decide, by decide⟩, (by show 0 ≤ sizeLine; decide), fun t1 n1 => ⟨(by show 1 ≤ sizeLine; decide), fun t2 n2 => ⟨(by show 2 ≤ sizeLine; decide), fun l3 n3 => fun d4 n4 => ⟨(by show 1 ≤ sizeLine; decide), fun l5 n5 => ⟨(by show 17 ≤ sizeLine; decide), fun L1 n6 => ?_⟩⟩⟩⟩⟩
    refine ⟨_, rfl, (by show 2 ≤ sizeLine; decide), fun t6 m1 => fun d7 m2 => ⟨upd_same, [(Sum.inr "a", .str "b")], rfl, by decide, _, _, rfl, rfl, by decide, by decide, by decide, _, _, rfl, rfl, by decide, by decide, by decide, (by show 1 ≤ sizeLine; decide), fun t8 m3 => ⟨(by show 1 ≤ sizeLine; decide), fun l9 m4 => ⟨(by show 1 ≤ sizeLine; decide), fun l10 m5 => ⟨(by show 2 ≤ sizeLine; decide), fun t11 m6 => ⟨(by show 0 ≤ sizeLine; decide), fun l12 m7 => ⟨(by show 10 ≤ sizeLine; decide), fun L2 m8 => ?_⟩⟩⟩⟩⟩⟩⟩
    have g2 := same_upd2 (o := .dK []) (u := .dK (mergeK [] [(Sum.inr "a", .str "b")])) m2
    refine ⟨L1, L2, _, _, rfl, rfl, (g2.trans ((same_upd m3).trans ((same_upd m4).trans ((same_upd m5).trans ((same_upd m6).trans ((same_upd m7).trans (same_upd m8))))))) _ _ ((same_upd m1) _ _ upd_same), upd_same, (by show 17 + 10 ≤ sizeLine; decide), fun L3 m9 => ?_⟩
    refine ⟨_, rfl, _, rfl, (by show 2 ≤ sizeLine; decide), fun t13 m10 => ⟨(by show 1 ≤ sizeLine; decide), fun L4 m11 => ⟨L3, L4, _, _, rfl, rfl, ((same_upd m10).trans (same_upd m11)) _ _ upd_same, upd_same, (by show 27 + 1 ≤ sizeLine; decide), fun L5 m12 => ?_⟩⟩⟩
    have T17 := fun o => same_upd (o := o) m12
    have T16 := fun o => (same_upd m11).trans (T17 o)
    have T15 := fun o => (same_upd m10).trans (T16 o)
    have T14 := fun o => (same_upd m9).trans (T15 o)
    have T13 := fun o => (same_upd m8).trans (T14 o)
    have T12 := fun o => (same_upd m7).trans (T13 o)
    have T11 := fun o => (same_upd m6).trans (T12 o)
    have T10 := fun o => (same_upd m5).trans (T11 o)
    have T9 := fun o => (same_upd m4).trans (T10 o)
    have T8 := fun o => (same_upd m3).trans (T9 o)
    have T7 := fun o => g2.trans (T8 o)
    have T6 := fun o => (same_upd m1).trans (T7 o)
    have T5 := fun o => (same_upd n6).trans (T6 o)
    have T4 := fun o => (same_upd n5).trans (T5 o)
    have T3 := fun o => (same_upd n4).trans (T4 o)
    have T2 := fun o => (same_upd n3).trans (T3 o)
    have T1 := fun o => (same_upd n2).trans (T2 o)
    have T0 := fun o => (same_upd n1).trans (T1 o)
    refine ⟨d, c, n, ns, _, rfl, pen.keep (T0 _), hn, .inl ⟨L5, _, rfl, upd_same, (by show 0 < 28; decide), (by show 28 < 1000000; decide), fun v H' hv pen' but => ?_⟩⟩
    obtain ⟨kvs, _, _, p⟩ := pen
    have pd := p.dc
    have e4 : d4 ≠ d := Ne.symm (ne_of_none (((same_upd n1).trans ((same_upd n2).trans (same_upd n3))) _ _ pd) n4)
    have e7 : d7 ≠ d := Ne.symm (ne_of_none (((same_upd n1).trans ((same_upd n2).trans ((same_upd n3).trans ((same_upd n4).trans ((same_upd n5).trans ((same_upd n6).trans (same_upd m1))))))) _ _ pd) m2)
    have pf := fun o => (T0 o) _ _ pd
    have e_t1 : t1 ≠ d := ne_of (T1 (.lst []) _ _ upd_same) (pf (.lst [])) (by intro z; cases z)
    have e_t2 : t2 ≠ d := ne_of (T2 (.lst []) _ _ upd_same) (pf (.lst [])) (by intro z; cases z)
    have e_l3 : l3 ≠ d := ne_of (T3 (.lst []) _ _ upd_same) (pf (.lst [])) (by intro z; cases z)
    have e_l5 : l5 ≠ d := ne_of (T5 (.lst []) _ _ upd_same) (pf (.lst [])) (by intro z; cases z)
    have e_t6 : t6 ≠ d := ne_of (T7 (.lst []) _ _ upd_same) (pf (.lst [])) (by intro z; cases z)
    have e_t8 : t8 ≠ d := ne_of (T9 (.lst []) _ _ upd_same) (pf (.lst [])) (by intro z; cases z)
    have e_l9 : l9 ≠ d := ne_of (T10 (.lst []) _ _ upd_same) (pf (.lst [])) (by intro z; cases z)
    have e_l10 : l10 ≠ d := ne_of (T11 (.lst []) _ _ upd_same) (pf (.lst [])) (by intro z; cases z)
    have e_t11 : t11 ≠ d := ne_of (T12 (.lst []) _ _ upd_same) (pf (.lst [])) (by intro z; cases z)
    have e_l12 : l12 ≠ d := ne_of (T13 (.lst []) _ _ upd_same) (pf (.lst [])) (by intro z; cases z)
    have e_t13 : t13 ≠ d := ne_of (T16 (.lst []) _ _ upd_same) (pf (.lst [])) (by intro z; cases z)
    have z_t1 : H t1 = none := n1
    have z_t2 : H t2 = none := (same_upd n1).free n2
    have z_l3 : H l3 = none := ((same_upd n1).trans (same_upd n2)).free n3
    have z_d4 : H d4 = none := (((same_upd n1).trans (same_upd n2)).trans (same_upd n3)).free n4
    have z_l5 : H l5 = none := ((((same_upd n1).trans (same_upd n2)).trans (same_upd n3)).trans (same_upd n4)).free n5
    have z_t6 : H t6 = none := ((((((same_upd n1).trans (same_upd n2)).trans (same_upd n3)).trans (same_upd n4)).trans (same_upd n5)).trans (same_upd n6)).free m1
    have z_t8 : H t8 = none := ((((((((same_upd n1).trans (same_upd n2)).trans (same_upd n3)).trans (same_upd n4)).trans (same_upd n5)).trans (same_upd n6)).trans (same_upd m1)).trans g2).free m3
    have z_l9 : H l9 = none := (((((((((same_upd n1).trans (same_upd n2)).trans (same_upd n3)).trans (same_upd n4)).trans (same_upd n5)).trans (same_upd n6)).trans (same_upd m1)).trans g2).trans (same_upd m3)).free m4
    have z_l10 : H l10 = none := ((((((((((same_upd n1).trans (same_upd n2)).trans (same_upd n3)).trans (same_upd n4)).trans (same_upd n5)).trans (same_upd n6)).trans (same_upd m1)).trans g2).trans (same_upd m3)).trans (same_upd m4)).free m5
    have z_t11 : H t11 = none := (((((((((((same_upd n1).trans (same_upd n2)).trans (same_upd n3)).trans (same_upd n4)).trans (same_upd n5)).trans (same_upd n6)).trans (same_upd m1)).trans g2).trans (same_upd m3)).trans (same_upd m4)).trans (same_upd m5)).free m6
    have z_l12 : H l12 = none := ((((((((((((same_upd n1).trans (same_upd n2)).trans (same_upd n3)).trans (same_upd n4)).trans (same_upd n5)).trans (same_upd n6)).trans (same_upd m1)).trans g2).trans (same_upd m3)).trans (same_upd m4)).trans (same_upd m5)).trans (same_upd m6)).free m7
    have z_t13 : H t13 = none := (((((((((((((((same_upd n1).trans (same_upd n2)).trans (same_upd n3)).trans (same_upd n4)).trans (same_upd n5)).trans (same_upd n6)).trans (same_upd m1)).trans g2).trans (same_upd m3)).trans (same_upd m4)).trans (same_upd m5)).trans (same_upd m6)).trans (same_upd m7)).trans (same_upd m8)).trans (same_upd m9)).free m10
    have z_d7 : H d7 = none := (((((((same_upd n1).trans (same_upd n2)).trans (same_upd n3)).trans (same_upd n4)).trans (same_upd n5)).trans (same_upd n6)).trans (same_upd m1)).free m2
    obtain ⟨e, hz, fe⟩ := all_any (N := fun a => a ≠ d ∧ H a = none) (H := H') (but _ _ (T1 _ _ _ upd_same) e_t1) (but _ _ (T2 _ _ _ upd_same) e_t2) (but _ _ (T3 _ _ _ upd_same) e_l3) (but _ _ (T4 _ _ _ upd_same) e4) (but _ _ (T5 _ _ _ upd_same) e_l5) (but _ _ (T7 _ _ _ upd_same) e_t6) (but _ _ (T9 _ _ _ upd_same) e_t8) (but _ _ (T10 _ _ _ upd_same) e_l9) (but _ _ (T11 _ _ _ upd_same) e_l10) (but _ _ (T12 _ _ _ upd_same) e_t11) (but _ _ (T13 _ _ _ upd_same) e_l12) (but _ _ (T16 _ _ _ upd_same) e_t13) (but _ _ (T8 _ _ _ upd_same) e7) ⟨e_t1, z_t1⟩ ⟨e_t2, z_t2⟩ ⟨e_l3, z_l3⟩ ⟨e4, z_d4⟩ ⟨e_l5, z_l5⟩ ⟨e_t6, z_t6⟩ ⟨e_t8, z_t8⟩ ⟨e_l9, z_l9⟩ ⟨e_l10, z_l10⟩ ⟨e_t11, z_t11⟩ ⟨e_l12, z_l12⟩ ⟨e_t13, z_t13⟩ ⟨e7, z_d7⟩ v hv
    exact k v e H' hz fe pen' ((But.same (T0 _)).trans but)
end
end LA
end
section
set_option Elab.async false
set_option linter.all false
set_option maxRecDepth 100000
set_option maxHeartbeats 4100000
namespace LA
open PySem L2 XS XT LM XK XL LamX XO XV
abbrev sLB : Stmt := top 46
abbrev sLM : Stmt := top 47
abbrev sLS : Stmt := top 48
abbrev sLL : Stmt := top 49
theorem PenAt.pairL {H H' : Hp} {d c : Addr} {n : Int} {ns : List Int} (p : PenAt H d c n ns) (k : But d H H') {bs : List (Bk Str)} {us : List V} (h : Paired (fun b v => BkL H b v) bs us) : Paired (fun b v => BkL H' b v) bs us := L2.Paired.mapP h fun _ _ z => z.but p.nT p.nL k
/-- a line of signs out of z, two at most -/
structure Sm (z y : Str) : Prop where
  of : ∀ c ∈ cod y, c ∈ cod z
  le : y.length ≤ 2
/-- a block of such lines -/
structure Lb (z : Str) (b : Bk Str) : Prop where
  v : Vb b
  four : b.1.length ≤ 4
  l : ∀ y ∈ b.1, Sm z y
theorem Sm.line {z y : Str} (s : Sgn z) (h : Sm z y) : lineB y = true := lineB_of fun c hc => s.lets c (h.of c hc)
/-- picked items of a list of lines -/
theorem strs_mem {v : V} {ys : List Str} (h : v ∈ ys.map V.str) : ∃ y ∈ ys, v = .str y := by
  obtain ⟨y, hy, rfl⟩ := List.mem_map.mp h
  exact ⟨y, hy, rfl⟩
theorem ints_mem {v : V} {ts : List Nat} (h : v ∈ ts.map fun t : Nat => V.int (t : Int)) : ∃ t ∈ ts, v = .int (t : Int) := by
  obtain ⟨y, hy, rfl⟩ := List.mem_map.mp h
  exact ⟨y, hy, rfl⟩
theorem refs_of {H : Hp} : ∀ {bs : List (Bk Str)} {us : List V}, Paired (fun b v => BkL H b v) bs us → ∀ v ∈ us, ∃ t, v = .ref t
  | _, _, .nil, v, h => absurd h List.not_mem_nil
  | _, _, .cons ⟨t, a, e, _, _⟩ r, v, h => by
    rcases List.mem_cons.mp h with z | z
    · exact ⟨t, z.trans e⟩
    · exact refs_of r v z
/-- the list that holds the blocks may be written -/
theorem pairL_put {H H' : Hp} {L : Addr} {us : List V} (kL : H L = some (.lst us)) (hr : ∀ v ∈ us, ∃ t, v = .ref t) (k : But L H H') : ∀ {bs : List (Bk Str)} {vs : List V}, (∀ b ∈ bs, 1 ≤ b.1.length) → Paired (fun b v => BkL H b v) bs vs → Paired (fun b v => BkL H' b v) bs vs
  | _, _, _, .nil => .nil
  | b :: _, _, h1, .cons ⟨t, a, e, h2, h3⟩ r => .cons ⟨t, a, e, k _ _ h2 (fun z => by rw [z, kL] at h2; cases h2), k _ _ h3 (fun z => by
      rw [z, kL] at h3
      have e : us = b.1.map V.str := by injection h3 with h3; injection h3
      have l1 := h1 b (List.mem_cons_self ..)
      cases eb : b.1 with
      | nil => rw [eb] at l1; exact absurd l1 (by decide)
      | cons y ys =>
        obtain ⟨t, et⟩ := hr (.str y) (by rw [e, eb]; exact List.mem_cons_self ..)
        cases et)⟩ (pairL_put kL hr k (fun c hc => h1 c (List.mem_cons_of_mem _ hc)) r)

/-- the law's block of lists, off the pen -/
theorem BkL.e {H : Hp} {d c : Addr} {n : Int} {ns : List Int} (p : PenAt H d c n ns) {b : Bk Str} {v : V} (h : BkL H b v) : BkE (fun a => a ≠ d) H b v := by
  obtain ⟨t, a, e, h1, h2⟩ := h
  exact ⟨t, a, _, e, fun z => p.nT _ (z ▸ h1), fun z => p.nL _ (z ▸ h2), h1, h2, .inl rfl⟩
theorem lineB_chars {z : Str} (h : lineB z = true) : ∀ c ∈ cod z, c < 1114112 := fun c hc => by
  have := of_decide_eq_true (List.all_eq_true.mp h c hc)
  have := this.2.1
  omega
theorem map_str_inj : ∀ {xs ys : List Str}, xs.map V.str = ys.map V.str → xs = ys
  | [], [], _ => rfl
  | [], _ :: _, h => by cases h
  | _ :: _, [], h => by cases h
  | x :: xs, y :: ys, h => by
    injection h with h1 h2
    injection h1 with h1
    rw [h1, map_str_inj h2]
theorem BkE.det {N : Addr → Prop} {H H' : Hp} (s : Same H H') {b c : Bk Str} {v : V} (h : BkE N H b v) (g : BkE N H' c v) : b = c := by
  obtain ⟨t, a, o, rfl, _, _, h1, h2, h3⟩ := h
  obtain ⟨t2, a2, o2, e, _, _, g1, g2, g3⟩ := g
  injection e with e
  subst e
  have e1 := (s _ _ h1).symm.trans g1
  injection e1 with e1
  injection e1 with e1
  injection e1 with e1 e2
  injection e1 with e1
  injection e2 with e2
  injection e2 with e2
  subst e1
  have e3 := (s _ _ h2).symm.trans g2
  injection e3 with e3
  subst e3
  obtain ⟨br, bt⟩ := b
  obtain ⟨cr, ct⟩ := c
  have e4 : bt = ct := by
    have e2 : (bt : Int) = (ct : Int) := e2
    omega
  have e5 : br = cr := by
    rcases h3 with q1 | q1 <;> rcases g3 with q2 | q2 <;> rw [q1] at q2
    · injection q2 with q2
      exact map_str_inj q2
    · cases q2
    · cases q2
    · injection q2 with q2
      exact map_str_inj q2
  rw [e4, e5]
theorem pair_det {N : Addr → Prop} {H H' : Hp} (s : Same H H') : ∀ {bs cs : List (Bk Str)} {us : List V}, Paired (fun b v => BkE N H b v) bs us → Paired (fun b v => BkE N H' b v) cs us → bs = cs
  | _, _, _, .nil, .nil => rfl
  | _, _, _, .cons a r, .cons b t => by rw [a.det s b, pair_det s r t]
/-- a block as a value -/
def bkD (b : Bk Str) (o : Bool) : PyData := .tuple [if o = true then .list (b.1.map PyData.str) else .tuple (b.1.map PyData.str), .int (b.2 : Int)]
theorem dz_strs {N : Addr → Prop} {H : Hp} : ∀ {rs : List Str}, (∀ z ∈ rs, OkS z) → DzAll N H (rs.map V.str) (rs.map PyData.str)
  | [], _ => .nil
  | z :: rs, h => .cons (.str (h z (List.mem_cons_self ..))) (dz_strs fun y hy => h y (List.mem_cons_of_mem _ hy))
theorem Vb.oks {b : Bk Str} (v : Vb b) : ∀ z ∈ b.1, OkS z := fun z hz => ⟨(v.ok z hz).2, lineB_chars (v.ok z hz).1⟩
theorem lines_all {rs : List Str} (h : ∀ z ∈ rs, lineB z = true) : (rs.map PyData.str).all lineD = true := by
  rw [List.all_eq_true]
  intro d hd
  obtain ⟨z, hz, rfl⟩ := List.mem_map.mp hd
  exact h z hz
theorem blkD_bk {b : Bk Str} (v : Vb b) (four : b.1.length ≤ 4) (o : Bool) : blkD (bkD b o) = true := by
  have e : rowsD (if o = true then .list (b.1.map PyData.str) else .tuple (b.1.map PyData.str)) = true := by
    have l := lines_all fun z hz => (v.ok z hz).1
    have l1 := v.l1
    cases o <;> simp only [rowsD, itemsD, if_true, if_false, Bool.false_eq_true, l, List.length_map, Bool.true_and] <;> simp [l1, four]
  show (rowsD _ && numD (.int (b.2 : Int)) 1 (10 ^ 30)) = true
  rw [e, Bool.true_and]
  show (decide ((1 : Int) ≤ (b.2 : Int)) && decide ((b.2 : Int) ≤ 10 ^ 30)) = true
  have t1 := v.t1
  have t30 := v.t30
  rw [decide_eq_true (show (1 : Int) ≤ (b.2 : Int) by omega), decide_eq_true (show (b.2 : Int) ≤ 10 ^ 30 from (by have z : ((b.2 : Nat) : Int) ≤ ((10 ^ 30 : Nat) : Int) := Int.ofNat_le.mpr t30; exact z))]
  rfl
theorem BkE.dz {N : Addr → Prop} {H : Hp} {b : Bk Str} {v : V} (vb : Vb b) (h : BkE N H b v) : ∃ o, Dz N H v (bkD b o) := by
  obtain ⟨t, a, o, rfl, n1, n2, h1, h2, h3⟩ := h
  have l : (b.1.map V.str).length ≤ 1000 := by rw [List.length_map]; exact Nat.le_trans vb.l4 (by decide)
  rcases h3 with rfl | rfl
  · exact ⟨true, .tup n1 h1 (by show 2 ≤ 1000; decide) (.cons (.lst n2 h2 l (dz_strs vb.oks)) (.cons (.int _) .nil))⟩
  · exact ⟨false, .tup n1 h1 (by show 2 ≤ 1000; decide) (.cons (.tup n2 h2 l (dz_strs vb.oks)) (.cons (.int _) .nil))⟩
theorem pair_dz {N : Addr → Prop} {H : Hp} : ∀ {bs : List (Bk Str)} {us : List V}, (∀ b ∈ bs, Vb b ∧ b.1.length ≤ 4) → Paired (fun b v => BkE N H b v) bs us → ∃ ds, DzAll N H us ds ∧ badD ds = none
  | _, _, _, .nil => ⟨[], .nil, rfl⟩
  | b :: bs, _, h, .cons a r => by
    obtain ⟨o, e⟩ := a.dz (h b (List.mem_cons_self ..)).1
    obtain ⟨ds, e2, n⟩ := pair_dz (fun c hc => h c (List.mem_cons_of_mem _ hc)) r
    refine ⟨_ :: ds, .cons e e2, ?_⟩
    unfold badD at n ⊢
    rw [List.findIdx?_cons, n, blkD_bk (h b (List.mem_cons_self ..)).1 (h b (List.mem_cons_self ..)).2 o]
    rfl
/-- a value that is a right block -/
theorem dz_blk {N : Addr → Prop} {H : Hp} {b : Bk Str} {v : V} {d : PyData} (vb : Vb b) (four : b.1.length ≤ 4) (h : BkE N H b v) (z : Dz N H v d) : blkD d = true := by
  obtain ⟨t, a, o, rfl, n1, n2, h1, h2, h3⟩ := h
  have sqs : ∀ {ds : List PyData} {xs : List V}, xs = b.1.map V.str → DzAll N H xs ds → ds = b.1.map PyData.str := fun {ds xs} e r => by
    subst e
    generalize b.1 = rs at r
    clear h2 h3 four vb h1
    induction rs generalizing ds with
    | nil => cases r; rfl
    | cons y ys ih =>
      cases r with
      | cons p r =>
        cases p
        rw [ih r]
        rfl
  cases z with
  | tup _ g _ r =>
    rw [h1] at g
    cases g
    cases r with
    | cons p r =>
      cases r with
      | cons q r =>
        cases r
        cases q
        cases p with
        | lst _ g2 _ r2 =>
          rw [h2] at g2
          cases g2
          rcases h3 with e | e
          · injection e with e
            rw [sqs e r2]
            exact blkD_bk vb four true
          · cases e
        | tup _ g2 _ r2 =>
          rw [h2] at g2
          cases g2
          rcases h3 with e | e
          · cases e
          · injection e with e
            rw [sqs e r2]
            exact blkD_bk vb four false
        | emp _ g2 =>
          rw [h2] at g2
          cases g2
          rcases h3 with e | e <;> cases e
        | one _ g2 =>
          rw [h2] at g2
          cases g2
          rcases h3 with e | e <;> cases e
  | lst _ g _ _ => rw [h1] at g; cases g
  | emp _ g => rw [h1] at g; cases g
  | one _ g => rw [h1] at g; cases g
section
variable {P : Program} {w : World} {K : PySem.W.Frag} {mg : Str → Option Value} {base : Heap} {C DB DM : Addr}
/-- LongText of values -/
theorem init_made {N : Addr → Prop} {X : Hp} {us : List V} {ds : List PyData} {Q : VK} {E : XK} (dz : DzAll N X us ds) (lu : us.length ≤ 1000) {x dx : Addr} (nx : X x = none) (nd : X dx = none) (ne : dx ≠ x)
    (qB : ∀ k, badD ds = some k → Refz DB "index" (.int (k : Int)) X E) (qM : badD ds = none → 10 < us.length → Refz DM "limit" (.int 10) X E)
    (q : badD ds = none → us.length ≤ 10 → ∀ bs, Paired (fun b v => BkE N X b v) bs us → (∀ b ∈ bs, Vb b ∧ b.1.length ≤ 4) → ∀ H', LT C H' bs (.ref x) → Same X H' → Q .non H') :
    spIP C DB DM (.ref x :: us) [] (upd (upd X dx (.own x)) x (.ins C dx [])) Q E := by
  have sx : Same X (upd (upd X dx (.own x)) x (.ins C dx [])) := (same_upd nd).trans (same_upd (by rw [upd_ne (fun z => ne z.symm)]; exact nx))
  refine ⟨_, _, rfl, lu, fun p np => ⟨x, dx, p, _, rfl, ?_, .inl ⟨rfl, us, upd_same, N, ds, ?_, lu, fun k hk => (qB k hk).later (sx.trans (same_upd np)), fun h1 h2 => (qM h1 h2).later (sx.trans (same_upd np)), fun bs l10 pr vb t ws H' hx ht prT bt => ?_⟩⟩⟩
  · rw [upd_ne (ne_of_none upd_same np)]
    exact upd_same
  · exact DzAll.keep (Keeps.same (sx.trans (same_upd np))) (fun _ z => z) ds us dz
  · have sp := sx.trans (same_upd (o := .tup us) np)
    have bad : badD ds = none := by
      cases e : badD ds with
      | none => rfl
      | some k =>
        obtain ⟨dk, hk, nk, _⟩ := bad_at e
        exfalso
        have l2 := dz.len
        have hk2 : k < us.length := by rw [l2]; exact (List.getElem?_eq_some_iff.mp hk).1
        obtain ⟨b, hb, hbk⟩ := pair_at pr (List.getElem?_eq_getElem hk2)
        obtain ⟨d2, hd2, z2⟩ := dz.at_ (List.getElem?_eq_getElem hk2)
        rw [hd2] at hk
        cases hk
        obtain ⟨vbb, four⟩ := vb b (List.mem_of_getElem? hb)
        rw [dz_blk vbb four hbk (z2.same sp)] at nk
        cases nk
    obtain ⟨bs0, pr0, vb0⟩ := dz.blocks (bad_none bad)
    obtain rfl := pair_det sp pr0 pr
    refine q bad l10 bs0 pr0 vb0 _ ⟨x, dx, t, ws, rfl, hx, ht, prT⟩ fun c o e => ?_
    have n1 := ne_of_none e nx
    refine bt _ _ ?_ n1
    rw [upd_ne (ne_of_none (sx _ _ e) np)]
    exact sx _ _ e
end
section
variable {P : Program} {w : World} {K : PySem.W.Frag} {mg : Str → Option Value} {base : Heap} {C : Addr}
/-- lblocks -/
def spLB : Sp := fun vs H Q _ => ∃ (d c : Addr) (n : Int) (ns : List Int) (z : Str) (m : Nat) (l : Addr) (ts : List Nat), vs = [.ref d, .str z, .int (m : Int), .ref l] ∧ PenAt H d c n ns ∧ n + 50 < 1000000 ∧ Sgn z ∧ m ≤ 5 ∧ H l = some (.lst (ts.map fun t : Nat => V.int (t : Int))) ∧ ts ≠ [] ∧ ts.length ≤ 20 ∧ (∀ t ∈ ts, 1 ≤ t ∧ t ≤ 10 ^ 30) ∧
  ∀ (p : Addr) (bs : List (Bk Str)) (us : List V) (H' : Hp), H' p = some (.lst us) → Paired (fun b v => BkL H' b v) bs us → (∀ b ∈ bs, Lb z b) → bs.length ≤ m → PenAt H' d c (n + 50) ns → But d H H' → Q (.ref p) H'
abbrev nLB : List Str := ["_law_pen_here", "_law_signs_here", "_law_most_blocks", "_law_tops", "_law_k", "_law_pool", "_law_found", "_law_rows_here", "_law_j"]
theorem scLB : FnScope nLB ["_law_pen_here", "_law_signs_here", "_law_most_blocks", "_law_tops"] (defScope sLB) := ⟨rfl, rfl, rfl, by decide +kernel, rfl, by decide +kernel, by decide +kernel⟩
theorem ok_LB {f f1 f2 f3 : Addr} {fd fd1 fd2 fd3 : FuncData} (F : Fun K "_law_lblocks" "_law_lblocks" sLB f fd) (mR : mg "range" = none) (DR : DrawAt P w K mg base f1 fd1) (PK : PickAt P w K mg base f2 fd2) (RO : CallOf P w K mg base 3 "_law_row" ["_law_pen_here", "_law_signs_here", "_law_least", "_law_most_letters"] spRow f3 fd3) :
    FnOk P w K mg base CX0 4 f fd ["_law_pen_here", "_law_signs_here", "_law_most_blocks", "_law_tops"] spLB := by
  refine F.ok scLB (fun vs H Q E h => ?_) (fun cdv A outer s H vs Q E hr h => ?_)
  · obtain ⟨d, c, n, ns, z, m, l, ts, rfl, _⟩ := h
    rfl
  · obtain ⟨d, c, n, ns, z, m, l, ts, rfl, pen, hn, sz, hm, hl, ne, tl, ht, q⟩ := h
    have hr1 : Room 1 _ := hr.mono (by decide)
    have hr2 : Room 2 _ := hr.mono (by decide)
    refine ⟨_, pss_cons (by exact (ps_asg (pe_tup (pa_cons (pe_lc (own := [("_law_k", 4)]) (g := gName 4) (tt := tYes) (te := tCall spRow [] (fun _ _ _ => False) (tCons (tVar 0) (tCons (tVar 1) (tCons (tC (.int 0)) (tCons (tC (.int 2)) tNil))))) rfl scLB.nd (pi_range1 rfl mR (pa_cons pe_int pa_nil))
          (blkOk_by (N := nLB) (sc := defScope sLB) (by decide +kernel)) (fun _ _ _ _ _ => by exact (pg_name (i := 4) scLB.nd rfl (Or.inl rfl))) (fun _ _ _ _ _ => by exact pts_nil)
          (fun _ _ _ _ _ => by exact (pe_call RO.ok hr rfl RO.m RO.k RO.b .nil pass0 (pa_cons (pv 0) (pa_cons (pv 1) (pa_cons pe_int (pa_cons pe_int pa_nil))))))) (pa_cons (pe_lst pa_nil) pa_nil))) (pg_tup rfl (pgs_cons (by exact (pg_name (i := 5) scLB.nd rfl (Or.inr rfl))) (pgs_cons (by exact (pg_name (i := 6) scLB.nd rfl (Or.inl rfl))) pgs_nil))))) (
      pss_cons (by exact (ps_for PassesOwn.never rfl (pi_range1 rfl mR (pa_cons (pe_call DR.ok hr1 rfl DR.m DR.k DR.b .nil pass0 (pa_cons (pv 0) (pa_cons (pe_op op_add (pv 2) pe_int) pa_nil))) pa_nil)) (pg_name (i := 4) scLB.nd rfl (Or.inl rfl)) (
        pss_cons (by exact (ps_setLc (i := 7) (own := [("_law_j", 8)]) (g := gName 8) (tt := tYes) (te := tCall spPick [] (fun _ _ _ => False) (tCons (tVar 0) (tCons (tVar 5) tNil))) rfl scLB.nd rfl rfl (sw_true rfl rfl rfl (by decide +kernel)) (pi_range1 rfl mR (pa_cons (pe_op op_add pe_int (pe_call DR.ok hr1 rfl DR.m DR.k DR.b .nil pass0 (pa_cons (pv 0) (pa_cons pe_int pa_nil)))) pa_nil))
          (blkOk_by (N := nLB) (sc := defScope sLB) (by decide +kernel)) (fun _ _ _ _ _ => by exact (pg_name (i := 8) scLB.nd rfl (Or.inl rfl))) (fun _ _ _ _ _ => by exact pts_nil)
          (fun _ _ _ _ _ => by exact (pe_call PK.ok hr2 rfl PK.m PK.k PK.b .nil pass0 (pa_cons (pv 0) (pa_cons (pv 5) pa_nil)))))) (
        pss_one (by exact (ps_expr (pe_bm PySem.F.plainAttrs_list PySem.F.slot_list_append PySem.F.type_list_append mt_append (pv 6) (pa_cons (pe_tup (pa_cons (pv 7) (pa_cons (pe_call PK.ok hr2 rfl PK.m PK.k PK.b .nil pass0 (pa_cons (pv 0) (pa_cons (pv 3) pa_nil))) pa_nil))) pa_nil))))))))
      (pss_one (by exact (ps_ret (pv 6))))), ?_⟩
    have n0 := pen.n0
    refine ⟨3, rfl, by decide, by decide, fun D nD => ?_⟩
    obtain ⟨nDd, nDc⟩ := pen.fresh nD
    refine lc_range (fun i G => ∃ ys : List Str, G D = some (.lst (ys.map V.str)) ∧ ys.length = i ∧ (∀ y ∈ ys, Sm z y) ∧ PenAt G d c (n + 3 * i) ns ∧ But d H G) ⟨[], upd_same, rfl, fun _ h => absurd h List.not_mem_nil, (by rw [show n + 3 * ((0 : Nat) : Int) = n by omega]; exact pen.put nDd nDc), But.same (same_upd nD)⟩ (fun i G hi p => ?_) (fun G p => ?_)
    · obtain ⟨ys, pD, yl, sm, pP, pB⟩ := p
      refine ⟨rfl, ?_⟩
      dsimp only [tYes]
      rw [if_pos rfl]
      have i3 : i < 3 := by omega
      refine ⟨_, rfl, _, rfl, d, c, n + 3 * i, ns, z, 0, 2, rfl, pP, by omega, by have := sz.two; omega, by have := sz.three; omega, by decide, by decide, fun y G1 my l0 l2 p1 b1 => ?_⟩
      refine ⟨_, b1 _ _ pD nDd, Nat.lt_of_le_of_lt (by rw [List.length_map]; omega : _ ≤ 3) (by decide), ys ++ [y], ?_, by rw [List.length_append, yl]; rfl, ?_, ?_, (pB.trans b1).put nD⟩
      · rw [List.map_append]
        exact upd_same
      · intro x hx
        rcases List.mem_append.mp hx with h | h
        · exact sm x h
        · rw [List.mem_singleton] at h
          subst h
          exact ⟨my, by omega⟩
      · rw [show n + 3 * ((i + 1 : Nat) : Int) = n + 3 * i + 1 + 2 by omega]
        exact p1.put nDd nDc
    · obtain ⟨ys, pD, yl, sm, pP, pB0⟩ := p
      have pB := pB0
      replace yl : ys.length = 3 := yl
      replace pP : PenAt G d c (n + 9) ns := pP
      refine ⟨(by show 0 ≤ sizeLine; decide), fun L nL => ⟨(by show 2 ≤ sizeLine; decide), fun T nT => ?_⟩⟩
      have sL := same_upd (o := .lst []) nL
      have sT := same_upd (o := .tup [.ref D, .ref L]) nT
      have sLT := sL.trans sT
      refine ⟨T, _, rfl, SqT.of upd_same, rfl, _, _, rfl, _, _, rfl, rfl, ?_⟩
      obtain ⟨nLd, nLc⟩ := pP.fresh nL
      have pP1 := pP.keep sLT
      have bLT := pB.trans (But.same sLT)
      refine ⟨_, rfl, _, rfl, _, _, rfl, rfl, ?_⟩
      refine ⟨d, c, n + 9, ns, (m : Int) + 1, rfl, pP1, by omega, by omega, by omega, fun r H1 r0 r1 pen1 b1 => ?_⟩
      have kD : H1 D = some (.lst (ys.map V.str)) := b1 _ _ (sLT _ _ pD) nDd
      have kL : H1 L = some (.lst []) := b1 _ _ (sT _ _ upd_same) nLd
      have nLD : L ≠ D := (ne_of_none pD nL).symm
      have nll : L ≠ l := fun e => by
        have := pB _ _ hl fun z => pen.nL _ (z ▸ hl)
        rw [← e, nL] at this
        cases this
      refine ⟨r, rfl, by omega, by omega, for_range (lo := 0) (n := r.toNat) (fun i σ X => (∃ x4 x7 x8 : Option V, σ = [some (.ref d), some (.str z), some (.int (m : Int)), some (.ref l), x4, some (.ref D), some (.ref L), x7, x8]) ∧ (∃ (bs : List (Bk Str)) (us : List V), X L = some (.lst us) ∧ bs.length = i ∧ Paired (fun b v => BkL X b v) bs us ∧ ∀ b ∈ bs, Lb z b) ∧ X D = some (.lst (ys.map V.str)) ∧ X l = some (.lst (ts.map fun t : Nat => V.int (t : Int))) ∧ PenAt X d c (n + 10 + 6 * i) ns ∧ But d H X) ⟨⟨_, _, _, rfl⟩, ⟨[], [], kL, rfl, .nil, fun _ h => absurd h List.not_mem_nil⟩, kD, (bLT.trans b1) _ _ hl (fun z => pen.nL _ (z ▸ hl)), (by rw [show n + 10 + 6 * ((0 : Nat) : Int) = n + 9 + 1 by omega]; exact pen1), bLT.trans b1⟩ (fun i σ X hi pw => ?_) (fun σ X pw => ?_)⟩
      · obtain ⟨⟨x4, x7, x8, rfl⟩, ⟨bs, us, kL, bl, pr, ok⟩, kD, kl, pX, bX⟩ := pw
        have i5 : i < 6 := by omega
        refine ⟨_, rfl, d, c, n + 10 + 6 * i, ns, 4, rfl, pX, by omega, by decide, by decide, fun r2 X1 t0 t1 p1 b1 => ⟨_, _, rfl, rfl, 1 + r2, rfl, by omega, by omega, fun R nR => ?_⟩⟩
        obtain ⟨nRd, nRc⟩ := p1.fresh nR
        have kD1 := pX.keepL b1 kD
        have kL1 := pX.keepL b1 kL
        have kl1 := pX.keepL b1 kl
        have pr1 := pX.pairL b1 pr
        have sR := same_upd (o := .lst []) nR
        refine lc_range (fun j G => ∃ ws : List Str, G R = some (.lst (ws.map V.str)) ∧ ws.length = j ∧ (∀ y ∈ ws, y ∈ ys) ∧ PenAt G d c (n + 11 + 6 * i + j) ns ∧ But d X1 G) ⟨[], upd_same, rfl, fun _ h => absurd h List.not_mem_nil, (by rw [show n + 11 + 6 * (i : Int) + ((0 : Nat) : Int) = n + 10 + 6 * i + 1 by omega]; exact p1.put nRd nRc), But.same sR⟩ (fun j G hj p => ?_) (fun G p => ?_)
        · obtain ⟨ws, pD, wl, wm, pP, pB⟩ := p
          refine ⟨rfl, ?_⟩
          dsimp only [tYes]
          rw [if_pos rfl]
          have j5 : j < 4 := by omega
          refine ⟨_, rfl, _, rfl, d, c, n + 11 + 6 * i + j, ns, _, rfl, pP, by omega, .inl ⟨D, _, rfl, p1.keepL pB kD1, by rw [List.length_map]; omega, by rw [List.length_map]; omega, fun v G1 hv p2 b2 => ?_⟩⟩
          obtain ⟨y, hy, rfl⟩ := strs_mem hv
          refine ⟨_, b2 _ _ pD nRd, Nat.lt_of_le_of_lt (by rw [List.length_map]; omega : _ ≤ 4) (by decide), ws ++ [y], ?_, by rw [List.length_append, wl]; rfl, ?_, ?_, (pB.trans b2).put nR⟩
          · rw [List.map_append]
            exact upd_same
          · intro x hx
            rcases List.mem_append.mp hx with h | h
            · exact wm x h
            · rw [List.mem_singleton] at h
              subst h
              exact hy
          · rw [show n + 11 + 6 * (i : Int) + ((j + 1 : Nat) : Int) = n + 11 + 6 * i + j + 1 by omega]
            exact p2.put nRd nRc
        · obtain ⟨ws, pD, wl, wm, pP, pB⟩ := p
          have wl4 : ws.length ≤ 4 := by omega
          have wl1 : 1 ≤ ws.length := by omega
          have kL2 := p1.keepL pB kL1
          have kl2 := p1.keepL pB kl1
          have kD2 := p1.keepL pB kD1
          have pr2 := p1.pairL pB pr1
          refine ⟨_, rfl, .inl ⟨rfl, _, SqL.of kL2⟩, _, rfl, _, rfl, _, rfl, d, c, n + 11 + 6 * i + (1 + r2).toNat, ns, _, rfl, pP, by omega, .inl ⟨l, _, rfl, kl2, by rw [List.length_map]; exact List.length_pos_iff.mpr ne, by rw [List.length_map]; omega, fun v X3 hv p3 b3 => ?_⟩⟩
          obtain ⟨t, htm, rfl⟩ := ints_mem hv
          have kL3 := pP.keepL b3 kL2
          have kR3 := pP.keepL b3 pD
          have nRL : R ≠ L := (ne_of_none kL1 nR).symm
          refine ⟨(by show 2 ≤ sizeLine; decide), fun T2 nT2 => ?_⟩
          have sT2 := same_upd (o := .tup [.ref R, .int (t : Int)]) nT2
          have nTL : T2 ≠ L := (ne_of_none kL3 nT2).symm
          have ul : us.length = i := by rw [← pair_len pr, bl]
          refine ⟨L, _, _, rfl, rfl, sT2 _ _ kL3, Nat.lt_of_le_of_lt (by omega : _ ≤ 6) (by decide), ?_⟩
          have bt : But L X3 (upd (upd X3 T2 (.tup [.ref R, .int (t : Int)])) L (.lst (us ++ [.ref T2]))) := But.same_put sT2
          have hLn : H L = none := pB0.none nLd nL
          have b5 : But d H (upd (upd X3 T2 (.tup [.ref R, .int (t : Int)])) L (.lst (us ++ [.ref T2]))) := fun a o e nd =>
            bt _ _ (b3 _ _ (pB _ _ (b1 _ _ (bX _ _ e nd) nd) nd) nd) (ne_of_none e hLn)
          have nDL : D ≠ L := fun e => nLD e.symm
          refine ⟨⟨_, _, _, rfl⟩, ⟨bs ++ [(ws, t)], us ++ [.ref T2], upd_same, by rw [List.length_append, bl]; rfl, ?_, ?_⟩, ?_, ?_, ?_, ?_⟩
          · have bt2 := pP.pairL b3 pr2
            refine pair_app (pairL_put (H := X3) kL3 (refs_of bt2) bt (fun b hb => (ok b hb).v.l1) bt2) (.cons ⟨T2, R, rfl, ?_, ?_⟩ .nil)
            · rw [upd_ne nTL]
              exact upd_same
            · rw [upd_ne nRL]
              exact sT2 _ _ kR3
          · intro b hb
            rcases List.mem_append.mp hb with h | h
            · exact ok b h
            · rw [List.mem_singleton] at h
              subst h
              exact ⟨⟨wl1, Nat.le_trans wl4 (by decide), (ht t htm).1, (ht t htm).2, fun y hy => ⟨(sm y (wm y hy)).line sz, by have := (sm y (wm y hy)).le; omega⟩⟩, wl4, fun y hy => sm y (wm y hy)⟩
          · rw [upd_ne nDL]
            exact sT2 _ _ (pP.keepL b3 kD2)
          · rw [upd_ne (fun e => nll e.symm)]
            exact sT2 _ _ (pP.keepL b3 kl2)
          · rw [show n + 10 + 6 * ((i + 1 : Nat) : Int) = n + 10 + 6 * i + 6 by omega]
            obtain ⟨nTd, nTc⟩ := p3.fresh nT2
            refine ((p3.put nTd nTc).put (fun e => nLd e) (fun e => nLc e)).le (by omega)
          · exact b5
      · obtain ⟨⟨x4, x7, x8, rfl⟩, ⟨bs, us, kL, bl, pr, ok⟩, kD, kl, pX, bX⟩ := pw
        exact ⟨_, rfl, q L bs us X kL pr ok (by omega) (pX.le (by omega)) bX⟩
end
end LA
end
section
set_option Elab.async false
set_option linter.all false
set_option maxRecDepth 100000
set_option maxHeartbeats 4100000
namespace LA
open PySem L2 XS XT LM XK XL LamX XO XV
abbrev sIsBlkL : Stmt := top 51
theorem pe_or2 {X : Cx} {e : Expr} {t1 t2 : TE} (h1 : PE X e t1) (h2 : PE X e t2) : PE X e (fun σ H Q => t1 σ H Q ∨ t2 σ H Q) :=
  ⟨fun pins s σ H Q I w => w.elim (fun w => h1.run pins s σ H Q I w) (fun w => h2.run pins s σ H Q I w)⟩
def optS : Option Str → V
  | none => .non
  | some y => .str y
theorem seq_of {K : PySem.W.Frag} {H : Hp} {a : Addr} {o : HO} {xs : List V} (h : H a = some o) (e : o = .lst xs ∨ o = .tup xs) : SqL K H a xs ∨ SqT K H a xs := by
  rcases e with rfl | rfl
  · exact .inl (SqL.of h)
  · exact .inr (SqT.of h)
section
variable {P : Program} {w : World} {K : PySem.W.Frag} {mg : Str → Option Value} {base : Heap} {C DB DM : Addr}
/-- the class's facts for making and adding -/
structure LgAt (P : Program) (w : World) (K : PySem.W.Frag) (mg : Str → Option Value) (base : Heap) (C DB DM : Addr) (fI fA : Addr) (fdA : FuncData) : Prop where
  k : KLg K C
  mak : Mk K C fI
  nm : mg "LongText" = some (.ref C)
  ip : FnV P w K mg base (L2.CX P w) 5 fI [] (spIP C DB DM)
  add : FnOk P w K mg base CX0 7 fA fdA ["self", "other"] (spPlus C)
  at_ : PySem.W.findIn K (.ref C) "__add__" = some (some (.ref fA))
  fn : PySem.W.isFn K (.ref fA) = true
  b : Binds K fdA ["self", "other"] []
  self : PySem.W.selfFirst K C = true
/-- lmade -/
def spLM (C : Addr) : Sp := fun vs H Q _ => ∃ (p : Addr) (us : List V) (bs : List (Bk Str)) (N : Addr → Prop), vs = [.ref p] ∧ H p = some (.lst us) ∧ Paired (fun b v => BkE N H b v) bs us ∧ (∀ b ∈ bs, Vb b ∧ b.1.length ≤ 4) ∧ bs.length ≤ 100 ∧ ∀ (v : V) (H' : Hp), LT C H' bs v → Same H H' → Q v H'
theorem scLM : FnScope ["_law_blocks", "_law_found", "_law_one"] ["_law_blocks"] (defScope sLM) := ⟨rfl, rfl, rfl, by decide +kernel, rfl, by decide +kernel, by decide +kernel⟩
theorem ok_LM {f fI fA : Addr} {fd fdA : FuncData} (F : Fun K "_law_lmade" "_law_lmade" sLM f fd) (G : LgAt P w K mg base C DB DM fI fA fdA) : FnOk P w K mg base CX0 8 f fd ["_law_blocks"] (spLM C) := by
  refine F.ok scLM (fun vs H Q E h => ?_) (fun cdv A outer s H vs Q E hr h => ?_)
  · obtain ⟨p, us, bs, N, rfl, _⟩ := h
    rfl
  · obtain ⟨p, us, bs, N, rfl, hp, pr, vb, few, q⟩ := h
    have hr6 : Room 6 _ := hr.mono (by decide)
    refine ⟨_, pss_cons (by exact (ps_set (i := 1) scLM.nd rfl (.inl rfl) (pe_makeVK (tk := tNil) (ks := []) G.mak G.ip hr6 rfl G.nm passN pk_nil))) (
      pss_cons (by exact (ps_for PassesOwn.never rfl (pi_list (pv 0)) (pg_name (i := 2) scLM.nd rfl (Or.inl rfl)) (
        pss_one (by exact (ps_set (i := 1) scLM.nd rfl (.inl rfl) (pe_op (op_ownA G.add G.at_ G.fn G.b pass0 hr G.self) (pv 1) (pe_makeV G.mak G.ip hr6 rfl G.nm passN (pa_cons (pv 2) pa_nil)))))))) (
      pss_one (by exact (ps_ret (pv 1))))), ?_⟩
    refine ⟨rfl, fun x0 d0 nx nd ne => init_made (N := N) (ds := []) .nil (by decide) nx nd ne (fun _ h => by cases h) (fun _ h => absurd h (by decide)) fun _ _ b0 p0 _ H0 l0 s0 => ⟨rfl, ?_⟩⟩
    have e0 : b0 = [] := by cases p0; rfl
    subst e0
    refine ⟨_, rfl, p, rfl, ⟨_, SqL.of (s0 _ _ hp)⟩, for_it (walk_list (K := K) (a := p) (xs := us)) (fun i σ X => (∃ (v : V) (x2 : Option V), σ = [some (.ref p), some v, x2] ∧ LT C X (bs.take i) v) ∧ Same H X) ⟨⟨_, none, rfl, l0⟩, s0⟩ (fun i σ X _ pw => SqL.of (pw.2 _ _ hp)) (fun i x σ X X' hi pw yl => ?_) (fun σ X pw => ?_)⟩
    · obtain ⟨⟨v, x2, rfl, lt⟩, sX⟩ := pw
      obtain ⟨rfl, hx⟩ := yl
      obtain ⟨b, hb, hbk⟩ := pair_at pr hx
      have vbb := vb b (List.mem_of_getElem? hb)
      have hbX := hbk.keep (Keeps.same sX) (fun _ z => z)
      obtain ⟨ob, zb⟩ := hbX.dz vbb.1
      generalize hdb : bkD b ob = db at zb
      have bad1 : badD [db] = none := by
        rw [← hdb]
        unfold badD
        rw [List.findIdx?_cons, blkD_bk vbb.1 vbb.2 ob]
        rfl
      refine ⟨_, rfl, _, rfl, rfl, fun x1 d1 nx nd ne => init_made (N := N) (ds := [db]) (.cons zb .nil) (by show 1 ≤ 1000; decide) nx nd ne (fun _ h => by rw [bad1] at h; cases h) (fun _ h => absurd h (by show ¬ (10 < 1); decide)) fun _ _ b1 p1 _ H1 l1 s1 => ⟨rfl, ?_⟩⟩
      have e1 : b1 = [b] := pair_det (fun _ _ e => e) p1 (.cons hbX .nil)
      subst e1
      have lt1 := lt.same s1
      obtain ⟨a, dx, t, us1, rfl, ha, ht, prT⟩ := id lt1
      obtain ⟨a2, dy, t2, us2, ea, ha2, ht2, prT2⟩ := id l1
      cases ea
      refine ⟨a, dx, _, x1, dy, _, rfl, rfl, ha, ha2, bs.take i, [b], _, _, rfl, lt1, l1, ?_, fun z H' lz sz => ⟨⟨_, _, rfl, ?_⟩, (sX.trans s1).trans sz⟩⟩
      · rw [List.length_take]
        have : min i bs.length ≤ bs.length := Nat.min_le_right _ _
        show _ + 1 ≤ 1000
        omega
      · rw [List.take_succ, hb]
        exact lz
    · obtain ⟨⟨v, x2, rfl, lt⟩, sX⟩ := pw
      rw [← pair_len pr, List.take_length] at lt
      exact ⟨_, rfl, q v X lt sX⟩
end
section
variable {P : Program} {w : World} {K : PySem.W.Frag} {mg : Str → Option Value} {base : Heap} {C : Addr}
/-- the law's blocks at p -/
structure LBs (H : Hp) (p : Addr) (bs : List (Bk Str)) : Prop where
  ex : ∃ us, H p = some (.lst us) ∧ Paired (fun b v => BkE (fun _ => True) H b v) bs us
theorem LBs.bx {H H' : Hp} {d : Addr} {kvs : List (Key × V)} (b : Bx d H H') (hd : H d = some (.dK kvs)) {p : Addr} {bs : List (Bk Str)} (h : LBs H p bs) : LBs H' p bs := by
  obtain ⟨us, h1, h2⟩ := h.ex
  refine ⟨us, b _ _ h1 (fun z => by rw [z, hd] at h1; cases h1) (fun _ z => by cases z), L2.Paired.mapP h2 fun _ _ z => ?_⟩
  obtain ⟨t, a, o, e, n1, n2, g1, g2, g3⟩ := z
  refine ⟨t, a, o, e, n1, n2, b _ _ g1 (fun z => by rw [z, hd] at g1; cases g1) (fun _ z => by cases z), b _ _ g2 (fun z => ?_) (fun _ z => ?_), g3⟩
  · rw [z, hd] at g2
    injection g2 with g2
    rw [← g2] at g3
    rcases g3 with z | z <;> cases z
  · rw [z] at g3
    rcases g3 with z | z <;> cases z
theorem LBs.same {H H' : Hp} (s : Same H H') {p : Addr} {bs : List (Bk Str)} (h : LBs H p bs) : LBs H' p bs := by
  obtain ⟨us, h1, h2⟩ := h.ex
  exact ⟨us, s _ _ h1, L2.Paired.mapP h2 fun _ _ z => z.keep (Keeps.same s) (fun _ z => z)⟩
/-- lsize -/
def spLS : Sp := fun vs H Q _ => ∃ (p : Addr) (bs : List (Bk Str)), vs = [.ref p] ∧ LBs H p bs ∧ (∀ b ∈ bs, Vb b) ∧ bs.length ≤ 100 ∧ ∀ H', Same H H' → Q (.int ((wr bs).length : Int)) H'
theorem scLS : FnScope ["_law_blocks", "_law_rows_here", "_law_times"] ["_law_blocks"] (defScope sLS) := ⟨rfl, rfl, rfl, by decide +kernel, rfl, by decide +kernel, by decide +kernel⟩
theorem ok_LS {f : Addr} {fd : FuncData} (F : Fun K "_law_lsize" "_law_lsize" sLS f fd) (mL : mg "len" = none) (mS : mg "sum" = none) : FnOk P w K mg base CX0 1 f fd ["_law_blocks"] spLS := by
  refine F.ok scLS (fun vs H Q E h => ?_) (fun cdv A outer s H vs Q E hr h => ?_)
  · obtain ⟨p, bs, rfl, _⟩ := h
    rfl
  · obtain ⟨p, bs, rfl, ⟨us, hp, pr⟩, vb, few, q⟩ := h
    refine ⟨_, pss_one (by exact (ps_ret (pe_callB (cr_sum rfl) (by rfl) mS (by decide +kernel) (pa_cons (pe_lc (own := [("_law_rows_here", 1), ("_law_times", 2)]) (g := gTup K 2 (gCons (gName 1) (gCons (gName 2) gNil))) (tt := tYes) (te := tOp (rI CMulW fun i j => .int (i * j)) (tCB (rLen K) (tCons (tVar 1) tNil)) (tVar 2)) rfl scLS.nd (pi_list (pv 0))
        (blkOk_by (N := ["_law_blocks", "_law_rows_here", "_law_times"]) (sc := defScope sLS) (by decide +kernel))
        (fun _ _ _ _ _ => by exact (pg_tup rfl (pgs_cons (by exact (pg_name (i := 1) scLS.nd rfl (Or.inl rfl))) (pgs_cons (by exact (pg_name (i := 2) scLS.nd rfl (Or.inl rfl))) pgs_nil))))
        (fun _ _ _ _ _ => by exact pts_nil)
        (fun _ _ _ _ _ => by exact (pe_op op_mulW (pe_callB call_len_seq (by rfl) mL PySem.boot_len (pa_cons (pv 1) pa_nil)) (pv 2)))) pa_nil)))), ?_⟩
    refine ⟨_, rfl, p, rfl, ⟨_, SqL.of hp⟩, fun DD nD => ?_⟩
    refine lc_it (walk_list (K := K) (a := p) (xs := us)) (fun i Y => Y DD = some (.lst ((bs.take i).map fun b => V.int ((b.1.length * b.2 : Nat) : Int))) ∧ Same H Y) ⟨upd_same, same_upd nD⟩ (fun i Y _ p => SqL.of (p.2 _ _ hp)) (fun i x Y Y' hi p yl => ?_) (fun Y p => ?_)
    · obtain ⟨pD, pS⟩ := p
      obtain ⟨rfl, hx⟩ := yl
      obtain ⟨b, hb, tb, ab, ob, rfl, _, _, h1, h2, h3⟩ := pair_at pr hx
      have v := vb b (List.mem_of_getElem? hb)
      refine ⟨tb, _, rfl, SqT.of (pS _ _ h1), rfl, _, _, rfl, _, _, rfl, rfl, rfl, ?_⟩
      dsimp only [tYes]
      rw [if_pos rfl]
      refine ⟨_, rfl, ab, _, rfl, (seq_of (pS _ _ h2) h3 : SqL K Y' ab (b.1.map V.str) ∨ SqT K Y' ab (b.1.map V.str)), _, rfl, _, _, rfl, rfl, ?_⟩
      have e1 : ((b.1.map V.str).length : Int) = (b.1.length : Int) := by rw [List.length_map]
      rw [e1]
      refine ⟨wide_mul (rows_small v.l4) (times_small v.t30) (by decide) (by decide) (by decide), _, pD, ?_, ?_, ?_⟩
      · rw [List.length_map, List.length_take]
        exact Nat.lt_of_le_of_lt (Nat.min_le_right _ _) (Nat.lt_of_le_of_lt few (by decide))
      · rw [List.take_succ, hb, List.map_append]
        exact upd_same
      · intro c o e
        rw [upd_ne (ne_of_none e nD)]
        exact pS c o e
    · obtain ⟨pD, pS⟩ := p
      rw [← pair_len pr, List.take_length] at pD
      refine ⟨DD, (bs.map fun b => ((b.1.length * b.2 : Nat) : Int)), rfl, ?_, ?_⟩
      · rw [List.map_map]
        exact SqL.of pD
      · rw [sum_wr]
        exact q Y pS
/-- lline: the line with a number from 1 on -/
def spLL : Sp := fun vs H Q _ => ∃ (p : Addr) (bs : List (Bk Str)) (e : Int) (n : Nat), vs = [.ref p, .int e] ∧ e = (n : Int) + 1 ∧ LBs H p bs ∧ (∀ b ∈ bs, Vb b) ∧ ∀ H', Same H H' → Q (optS ((wr bs)[n]?)) H'
theorem scLL : FnScope ["_law_blocks", "_law_slot", "_law_rows_here", "_law_times"] ["_law_blocks", "_law_slot"] (defScope sLL) := ⟨rfl, rfl, rfl, by decide +kernel, rfl, by decide +kernel, by decide +kernel⟩
theorem ok_LL {f : Addr} {fd : FuncData} (F : Fun K "_law_lline" "_law_lline" sLL f fd) (mL : mg "len" = none) (mI : mg "int" = none) : FnOk P w K mg base CX0 1 f fd ["_law_blocks", "_law_slot"] spLL := by
  refine F.ok scLL (fun vs H Q E h => ?_) (fun cdv A outer s H vs Q E hr h => ?_)
  · obtain ⟨p, bs, e, n, rfl, _⟩ := h
    rfl
  · obtain ⟨p, bs, e, n, rfl, rfl, ⟨us, hp, pr⟩, vb, q⟩ := h
    refine ⟨_, pss_cons (by exact (ps_set (i := 1) scLL.nd rfl (.inl rfl) (pe_op op_sub (pv 1) pe_int))) (
      pss_cons (by exact (ps_for PassesOwn.never rfl (pi_list (pv 0)) (pg_tup rfl (pgs_cons (by exact (pg_name (i := 2) scLL.nd rfl (Or.inl rfl))) (pgs_cons (by exact (pg_name (i := 3) scLL.nd rfl (Or.inl rfl))) pgs_nil))) (
        pss_cons (by exact (ps_if (pt_cmpR op_lt (pv 1) (pe_op op_mulW (pe_callB call_len_seq (by rfl) mL PySem.boot_len (pa_cons (pv 2) pa_nil)) (pv 3)) (nomark _)) (pss_one (by exact (ps_ret (pe_or2 (pe_ix ix_list (pv 2) (pe_op op_mod (pe_callTy call_int1 (by rfl) mI (by decide +kernel) (pa_cons (pv 1) pa_nil)) (pe_callB call_len_seq (by rfl) mL PySem.boot_len (pa_cons (pv 2) pa_nil))) (fun _ _ => rfl)) (pe_ix ix_tup (pv 2) (pe_op op_mod (pe_callTy call_int1 (by rfl) mI (by decide +kernel) (pa_cons (pv 1) pa_nil)) (pe_callB call_len_seq (by rfl) mL PySem.boot_len (pa_cons (pv 2) pa_nil))) (fun _ _ => rfl)))))) pss_nil)) (
        pss_one (by exact (ps_set (i := 1) scLL.nd rfl (.inl rfl) (pe_op op_sub (pv 1) (pe_op op_mulW (pe_callB call_len_seq (by rfl) mL PySem.boot_len (pa_cons (pv 2) pa_nil)) (pv 3))))))))) (
      pss_one (by exact (ps_ret pe_non)))), ?_⟩
    refine ⟨_, rfl, _, _, rfl, rfl, ?_⟩
    refine ⟨_, rfl, p, rfl, ⟨_, SqL.of hp⟩, for_it (walk_list (K := K) (a := p) (xs := us)) (fun i σ X => (∃ (x2 x3 : Option V) (e : Int) (j : Nat), σ = [some (.ref p), some (.int e), x2, x3] ∧ e = (j : Int) ∧ (wr (bs.take i)).length + j = n) ∧ Same H X) ⟨⟨none, none, _, n, rfl, by omega, by rw [List.take_zero]; exact Nat.zero_add n⟩, fun _ _ e => e⟩ (fun i σ X _ pw => SqL.of (pw.2 _ _ hp)) (fun i x σ X X' hi pw yl => ?_) (fun σ X pw => ?_)⟩
    · obtain ⟨⟨x2, x3, e, j, rfl, ee, ej⟩, pS⟩ := pw
      obtain ⟨rfl, hx⟩ := yl
      obtain ⟨b, hb, tb, ab, ob, rfl, _, _, h1, h2, h3⟩ := pair_at pr hx
      have v := vb b (List.mem_of_getElem? hb)
      have e1 : ((b.1.map V.str).length : Int) = (b.1.length : Int) := by rw [List.length_map]
      have hA := pS _ _ h2
      have sA : SqL K X' ab (b.1.map V.str) ∨ SqT K X' ab (b.1.map V.str) := seq_of hA h3
      have wm : CMulW ((b.1.map V.str).length : Int) (b.2 : Int) := by
        rw [e1]
        exact wide_mul (rows_small v.l4) (times_small v.t30) (by decide) (by decide) (by decide)
      have e2 : ((b.1.map V.str).length : Int) * (b.2 : Int) = ((b.1.length * b.2 : Nat) : Int) := by rw [e1, Int.natCast_mul]
      refine ⟨tb, _, rfl, SqT.of (pS _ _ h1), rfl, _, _, rfl, _, _, rfl, rfl, ?_⟩
      refine ⟨_, rfl, _, rfl, ab, _, rfl, sA, _, rfl, _, _, rfl, rfl, wm, _, _, rfl, rfl, _, rfl, ?_⟩
      rw [e2]
      by_cases c : j < b.1.length * b.2
      · rw [decide_eq_true (show e < ((b.1.length * b.2 : Nat) : Int) by omega)]
        refine iteT ?_
        have l0 : (0 : Int) < ((b.1.map V.str).length : Int) := by have := v.l1; omega
        have gm : (wr bs)[n]? = b.1[j % b.1.length]? := by
          have eb : bs = bs.take i ++ b :: bs.drop (i + 1) := by
            obtain ⟨hj, e3⟩ := List.getElem?_eq_some_iff.mp hb
            rw [← e3, List.getElem_cons_drop, List.take_append_drop]
          have z := get_mid (bs.take i) b (bs.drop (i + 1)) j c
          rw [← eb, ej] at z
          exact z
        have jl : j % b.1.length < b.1.length := Nat.mod_lt _ v.l1
        have ea : b.1[j % b.1.length]? = some b.1[j % b.1.length] := List.getElem?_eq_getElem jl
        have at_ : atI (b.1.map V.str) (e % ((b.1.map V.str).length : Int)) = some (.str b.1[j % b.1.length]) := by
          rw [e1, ee, show (j : Int) % (b.1.length : Int) = ((j % b.1.length : Nat) : Int) by omega]
          exact atI_nat (by rw [List.getElem?_map, ea]; rfl)
        have z := q X' pS
        rw [gm, ea] at z
        rcases sA with sL | sT
        · exact .inl ⟨_, rfl, _, rfl, .inl ⟨e, rfl, _, rfl, ab, _, rfl, .inl sL, _, _, rfl, rfl, l0, ab, _, _, _, rfl, rfl, sL, at_, z⟩⟩
        · exact .inr ⟨_, rfl, _, rfl, .inl ⟨e, rfl, _, rfl, ab, _, rfl, .inr sT, _, _, rfl, rfl, l0, ab, _, _, _, rfl, rfl, sT, at_, z⟩⟩
      · rw [decide_eq_false (show ¬ e < ((b.1.length * b.2 : Nat) : Int) by omega)]
        refine iteF ?_
        refine ⟨_, rfl, _, rfl, ab, _, rfl, sA, _, rfl, _, _, rfl, rfl, wm, _, _, rfl, rfl, ?_⟩
        refine ⟨⟨_, _, _, j - b.1.length * b.2, rfl, ?_, ?_⟩, pS⟩
        · rw [e2, ee]
          omega
        · rw [wr_take hb, List.length_append, len_one]
          omega
    · obtain ⟨⟨x2, x3, e, j, rfl, ee, ej⟩, pS⟩ := pw
      have z := q X pS
      rw [← pair_len pr, List.take_length] at ej
      rw [List.getElem?_eq_none (by omega)] at z
      exact z

/-- is_block of the law -/
theorem scIb : FnScope ["_law_thing", "_law_row_here"] ["_law_thing"] (defScope sIsBlkL) := ⟨rfl, rfl, rfl, by decide +kernel, rfl, by decide +kernel, by decide +kernel⟩
theorem ok_isBlkL {f f1 f2 : Addr} {fd fd1 fd2 : FuncData} (F : Fun K "_law_is_block" "_law_is_block" sIsBlkL f fd) (isM : mg "isinstance" = none) (mL : mg "list" = none) (mT : mg "tuple" = none) (mLe : mg "len" = none) (IR : CallOf P w K mg base 2 "_law_is_row" ["_law_thing"] (spQ lineD) f1 fd1) (NU : CallOf P w K mg base 1 "_law_is_number" ["_law_thing", "_law_low", "_law_high"] spNum f2 fd2) :
    FnOk P w K mg base CX0 3 f fd ["_law_thing"] (spQ blkD) := by
  refine F.ok scIb (fun vs H Q E h => ?_) (fun cdv A outer s H vs Q E hr h => ?_)
  · obtain ⟨N, v, d, rfl, _⟩ := h
    rfl
  · obtain ⟨N0, v, d, rfl, hv, q⟩ := h
    have hr1 : Room 1 _ := hr.mono (by decide)
    refine ⟨_, pss_cons (by exact (ps_if (PW.pt (pw_or (pt_not (pt_val (pe_callB call_isi (by rfl) isM (by decide +kernel) (pa_cons (pv 0) (pa_cons (pe_bltn (v := .ty "tuple") (by rfl) mT (by decide +kernel) rfl) pa_nil))))) (pw_or (pt_cmpR op_ne (pe_callB call_len_seq (by rfl) mLe PySem.boot_len (pa_cons (pv 0) pa_nil)) pe_int (nomark _)) (pw_or1 (pt_not (pt_val (pe_callB call_isiT (by rfl) isM (by decide +kernel) (pa_cons (pe_ix ix_tup (pv 0) pe_int (fun _ _ => rfl)) (pa_cons (pe_tup (pa_cons (pe_bltn (v := .ty "list") (by rfl) mL (by decide +kernel) rfl) (pa_cons (pe_bltn (v := .ty "tuple") (by rfl) mT (by decide +kernel) rfl) pa_nil))) pa_nil))))))))) (pss_one (by exact (ps_ret pe_bl))) pss_nil))
      (pss_cons (by exact (ps_if (PW.pt (pw_or (pt_not (pt_chain op_le op_le pe_int (pe_callB call_len_seq (by rfl) mLe PySem.boot_len (pa_cons (pe_ix ix_tup (pv 0) pe_int (fun _ _ => rfl)) pa_nil)) pe_int)) (pw_or1 (pt_cmpR (op_neNil hr.units) (pe_lc (own := [("_law_row_here", 1)]) (g := gName 1) (tt := tNot (tB (tCall (spQ lineD) [] (fun _ _ _ => False) (tCons (tVar 1) tNil)))) (te := tVar 1) rfl scIb.nd (pi_sq (pe_ix ix_tup (pv 0) pe_int (fun _ _ => rfl)))
        (blkOk_by (N := ["_law_thing", "_law_row_here"]) (sc := defScope sIsBlkL) (by decide +kernel))
        (fun _ _ _ _ _ => by exact (pg_name (i := 1) scIb.nd rfl (Or.inl rfl)))
        (fun _ _ _ _ _ => by exact (pts_one (pt_not (pt_val (pe_call IR.ok hr rfl IR.m IR.k IR.b .nil pass0 (pa_cons (pv 1) pa_nil))))))
        (fun _ _ _ _ _ => by exact (pv 1))) (pe_lst pa_nil) (nomark _))))) (pss_one (by exact (ps_ret pe_bl))) pss_nil))
      (pss_one (by exact (ps_ret (pe_call NU.ok hr1 rfl NU.m NU.k NU.b .nil pass0 (pa_cons (pe_ix ix_tup (pv 0) pe_int (fun _ _ => rfl)) (pa_cons pe_int (pa_cons (pe_op op_pow pe_int pe_int) pa_nil)))))))), ?_⟩
    refine ⟨_, rfl, _, _, _, _, _, rfl, .ty _, hv.ty, kit_ty (kn_tup _ (tyD_in d)), _, rfl, ?_⟩
    cases et : (tyD d == "tuple") with
    | false =>
      have z := q H (fun _ _ z => z)
      rw [blkD_no et] at z
      exact iteT z
    | true =>
      obtain ⟨t, xs, ds, rfl, rfl, ht, few, r⟩ := hv.tuple_ et
      refine iteF ⟨_, rfl, t, _, rfl, .inr (SqT.of ht), rfl, _, rfl, ?_⟩
      rw [r.len]
      by_cases l2 : ds.length = 2
      · rw [decide_eq_true (show V.int (ds.length : Int) = V.int 2 by rw [l2]; rfl)]
        obtain ⟨x, y, dx, dy, rfl, rfl, hx, hy⟩ := dz_two r l2
        have eb : blkD (.tuple [dx, dy]) = (rowsD dx && numD dy 1 (10 ^ 30)) := rfl
        rw [eb] at q
        refine iteF ⟨_, rfl, t, _, 0, x, rfl, rfl, SqT.of ht, rfl, (by show 2 ≤ sizeLine; decide), fun TT nT => ?_⟩
        have sT := same_upd (o := .tup [.ty "list", .ty "tuple"]) nT
        have hxT := hx.same sT
        have hyT := hy.same sT
        have htT := sT _ _ ht
        refine ⟨_, TT, _, _, _, _, rfl, upd_same, .cons (.ty _) (.cons (.ty _) .nil), hxT.ty, kit_seq dx, _, rfl, ?_⟩
        cases ei : itemsD dx with
        | none =>
          have e2 : rowsD dx = false := by unfold rowsD; rw [ei]
          have z := q _ sT
          rw [e2] at z
          exact iteT z
        | some es =>
          have e2 : rowsD dx = (es.all lineD && decide (1 ≤ es.length) && decide (es.length ≤ 4)) := by unfold rowsD; rw [ei]
          rw [e2] at q
          obtain ⟨a, o, ys, rfl, _, ha, ho, _, ry⟩ := hxT.items ei
          have sq := seq_of (K := K) ha ho
          refine iteF ⟨_, rfl, t, _, 0, _, rfl, rfl, SqT.of htT, rfl, a, ys, rfl, sq, _, _, rfl, rfl, _, rfl, ?_⟩
          rw [ry.len]
          have c1 : decide ((1 : Int) ≤ (es.length : Int)) = decide (1 ≤ es.length) := decide_eq_decide.mpr (by omega)
          have c2 : decide ((es.length : Int) ≤ 4) = decide (es.length ≤ 4) := decide_eq_decide.mpr (by omega)
          rw [c1]
          cases e3 : decide (1 ≤ es.length) with
          | false =>
            rw [e3] at q
            have z := q _ sT
            rw [Bool.and_false, Bool.false_and, Bool.false_and] at z
            exact iteF ⟨_, rfl, iteT z⟩
          | true =>
            rw [e3] at q
            refine iteT ⟨_, _, rfl, rfl, _, rfl, ?_⟩
            rw [c2]
            cases e4 : decide (es.length ≤ 4) with
            | false =>
              rw [e4] at q
              have z := q _ sT
              rw [Bool.and_false, Bool.false_and] at z
              exact iteT z
            | true =>
              rw [e4] at q
              rw [Bool.and_true, Bool.and_true] at q
              refine iteF ⟨_, rfl, t, _, 0, _, rfl, rfl, SqT.of htT, rfl, a, o, ys, rfl, ha, ho, fun J wk DD nD => ?_⟩
              generalize upd H TT (.tup [.ty "list", .ty "tuple"]) = H1 at sT hxT hyT htT ha sq ry nD ⊢
              refine lc_it wk (fun i Y => (∃ ws : List V, Y DD = some (.lst ws) ∧ ws.length ≤ i ∧ ws.isEmpty = (es.take i).all lineD) ∧ Same H1 Y) ⟨⟨[], upd_same, Nat.le_refl _, rfl⟩, same_upd nD⟩ (fun i Y _ p => p.2 _ _ ha) (fun i x Y Y' hi p yl => ?_) (fun Y p => ?_)
              · obtain ⟨⟨ws, pD, wl, wa⟩, pS⟩ := p
                obtain ⟨rfl, hxi⟩ := yl
                obtain ⟨dz, hd, hz⟩ := ry.at_ hxi
                refine ⟨rfl, ?_⟩
                refine ⟨_, rfl, N0, x, dz, rfl, hz.same pS, fun Z sZ => ⟨_, rfl, ?_⟩⟩
                have nx : (es.take (i + 1)).all lineD = ((es.take i).all lineD && lineD dz) := by
                  rw [List.take_succ, hd, List.all_append]
                  congr 1
                  exact Bool.and_true _
                cases el : lineD dz with
                | true =>
                  show (if (!true) = true then _ else _)
                  rw [if_neg (by decide)]
                  exact ⟨⟨ws, sZ _ _ pD, by omega, by rw [nx, el, Bool.and_true]; exact wa⟩, pS.trans sZ⟩
                | false =>
                  show (if (!false) = true then _ else _)
                  rw [if_pos (by decide)]
                  refine ⟨_, rfl, ws, sZ _ _ pD, ?_, ⟨ws ++ [x], upd_same, ?_, ?_⟩, fun b u e => ?_⟩
                  · exact Nat.lt_of_le_of_lt (show ws.length ≤ 1000 by omega) (by decide)
                  · rw [List.length_append]
                    exact Nat.add_le_add wl (Nat.le_refl 1)
                  · rw [nx, el, Bool.and_false]
                    cases ws <;> rfl
                  · rw [upd_ne (ne_of_none e nD)]
                    exact sZ _ _ (pS _ _ e)
              · obtain ⟨⟨ws, pD, wl, wa⟩, pS⟩ := p
                rw [ry.len, List.take_length] at wa
                refine ⟨(by show 0 ≤ sizeLine; decide), fun p np => ⟨DD, p, ws, rfl, rfl, SqL.of (same_upd np _ _ pD), SqL.of upd_same, ne_of_none pD np, ?_⟩⟩
                rw [wa]
                have sE := pS.trans (same_upd (o := .lst []) np)
                cases ea : es.all lineD with
                | false =>
                  rw [ea] at q
                  exact ⟨_, rfl, iteT (q _ (sT.trans sE))⟩
                | true =>
                  rw [ea] at q
                  have h30 : (10 : Int) ^ (30 : Int).toNat = 10 ^ 30 := by decide +kernel
                  refine ⟨_, rfl, iteF ⟨_, rfl, t, _, 1, y, rfl, rfl, SqT.of (sE _ _ htT), rfl, _, _, rfl, rfl, ⟨by decide, by decide, by decide⟩, N0, y, dy, 1, _, rfl, hyT.same sE, fun H' s' => ?_⟩⟩
                  rw [h30]
                  exact q _ ((sT.trans sE).trans s')
      · rw [decide_eq_false (show ¬ V.int (ds.length : Int) = V.int 2 from fun z => l2 (by injection z with z; omega))]
        have z := q H (fun _ _ z => z)
        rw [blkD_len l2] at z
        exact iteT z
end
end LA
end
section
set_option Elab.async false
set_option linter.all false
set_option maxRecDepth 100000
set_option maxHeartbeats 4100000
namespace LA
open PySem L2 XS XT LM XK XL LamX XO XV
abbrev sSome : Stmt := top 52
theorem PE.of {X : Cx} {e : Expr} {t t' : TE} (h : PE X e t) (i : ∀ σ H Q, t' σ H Q → t σ H Q) : PE X e t' := ⟨fun pins s σ H Q I w => h.run pins s σ H Q I (i σ H Q w)⟩
theorem PA.of {X : Cx} {es : List Expr} {t t' : L2.TA} (h : PA X es t) (i : ∀ σ H Q, t' σ H Q → t σ H Q) : PA X es t' := ⟨fun pos pins s σ H Q I w => h.run pos pins s σ H Q I (i σ H Q w)⟩
/-! ### displays of data -/
def Pn (N : Addr → Prop) (H : Hp) : Prop := ∀ a, H a = none → N a
theorem Pn.same {N : Addr → Prop} {H H' : Hp} (s : Same H H') (p : Pn N H) : Pn N H' := fun a h => p a (s.free h)
theorem Pn.off {N : Addr → Prop} {H : Hp} (p : Pn N H) {a : Addr} (h : H a = none) : N a := p a h
def tZ (N : Addr → Prop) (g : L2.St → Hp → PyData → Prop) : TE := fun σ H Q => ∃ e, g σ H e ∧ Pn N H ∧ ∀ v H', Dz N H' v e → Same H H' → Q v H'
def tZs (N : Addr → Prop) (g : L2.St → Hp → List PyData → Prop) : L2.TA := fun σ H Q => ∃ es, g σ H es ∧ Pn N H ∧ ∀ vs H', DzAll N H' vs es → Same H H' → Q vs H'
def tZL (N : Addr → Prop) (g : L2.St → Hp → List PyData → Prop) : TE := fun σ H Q => ∃ es, g σ H es ∧ Pn N H ∧ ∀ (L : Addr) vs H', H' L = some (.lst vs) → DzAll N H' vs es → Same H H' → Q (.ref L) H'
abbrev Mono {α : Type} (g : L2.St → Hp → α → Prop) : Prop := ∀ σ H H' e, Same H H' → g σ H e → g σ H' e
theorem DzAll.same {N : Addr → Prop} {H H' : Hp} (s : Same H H') {vs : List V} {ds : List PyData} (h : DzAll N H vs ds) : DzAll N H' vs ds := DzAll.keep (Keeps.same s) (fun _ z => z) ds vs h
theorem DzAll.app {N : Addr → Prop} {H : Hp} : ∀ {vs ws : List V} {ds es : List PyData}, DzAll N H vs ds → DzAll N H ws es → DzAll N H (vs ++ ws) (ds ++ es)
  | _, _, _, _, .nil, h => h
  | _, _, _, _, .cons a r, h => .cons a (DzAll.app r h)
theorem DzAll.mem {N : Addr → Prop} {H : Hp} : ∀ {vs : List V} {ds : List PyData} {v : V}, DzAll N H vs ds → v ∈ vs → ∃ d ∈ ds, Dz N H v d
  | _, _, _, .nil, h => by cases h
  | _, _, _, .cons a r, h => by
    rcases List.mem_cons.mp h with rfl | h
    · exact ⟨_, List.mem_cons_self .., a⟩
    · obtain ⟨d, m, z⟩ := DzAll.mem r h
      exact ⟨d, List.mem_cons_of_mem _ m, z⟩
section
variable {X : Cx} {N : Addr → Prop}
structure ZE (X : Cx) (N : Addr → Prop) (e : Expr) (g : L2.St → Hp → PyData → Prop) : Prop where
  pe : PE X e (tZ N g)
  mono : Mono g
structure ZS (X : Cx) (N : Addr → Prop) (es : List Expr) (g : L2.St → Hp → List PyData → Prop) : Prop where
  pa : PA X es (tZs N g)
  mono : Mono g
structure ZL (X : Cx) (N : Addr → Prop) (e : Expr) (g : L2.St → Hp → List PyData → Prop) : Prop where
  pe : PE X e (tZL N g)
  mono : Mono g
theorem zs_nil : ZS X N [] (fun _ _ es => es = []) := ⟨PA.of pa_nil fun σ H Q ⟨es, e, _, k⟩ => by
  subst e
  exact k [] H .nil (fun _ _ e => e), fun _ _ _ _ _ h => h⟩
theorem zs_cons {e : Expr} {es : List Expr} {g : L2.St → Hp → PyData → Prop} {gs : L2.St → Hp → List PyData → Prop} (h : ZE X N e g) (r : ZS X N es gs) (na : starEach (e :: es) X.env = (false, eval e X.env) :: starEach es X.env := by rfl) :
    ZS X N (e :: es) (fun σ H ds => ∃ d r, g σ H d ∧ gs σ H r ∧ ds = d :: r) := ⟨PA.of (pa_cons h.pe r.pa na) fun σ H Q ⟨ds, ⟨d, q, hg, hs, e⟩, p, k⟩ => by
  subst e
  exact ⟨d, hg, p, fun v H1 z1 s1 => ⟨q, r.mono _ _ _ _ s1 hs, p.same s1, fun vs H2 z2 s2 => k (v :: vs) H2 (.cons (z1.same s2) z2) (s1.trans s2)⟩⟩,
  fun σ H H' ds s ⟨d, q, a, b, e⟩ => ⟨d, q, h.mono _ _ _ _ s a, r.mono _ _ _ _ s b, e⟩⟩
theorem z_tup {es : List Expr} {gs : L2.St → Hp → List PyData → Prop} {kk : Nat} {pos : Pos} (h : ZS X N es gs) : ZE X N (.Tuple es kk pos) (fun σ H d => ∃ r, gs σ H r ∧ r.length ≤ 1000 ∧ d = .tuple r) := ⟨PE.of (pe_tup h.pa) fun σ H Q ⟨d, ⟨r, hg, l, e⟩, p, k⟩ => by
  subst e
  refine ⟨r, hg, p, fun vs H1 z s => ⟨by rw [z.len]; exact Nat.le_trans l (by decide), fun a na => ?_⟩⟩
  have sa := same_upd (o := .tup vs) na
  exact k (.ref a) _ (.tup ((p.same s).off na) upd_same (by rw [z.len]; exact l) (z.same sa)) (s.trans sa),
  fun σ H H' d s ⟨r, a, b, e⟩ => ⟨r, h.mono _ _ _ _ s a, b, e⟩⟩
theorem z_lst {es : List Expr} {gs : L2.St → Hp → List PyData → Prop} {pos : Pos} (h : ZS X N es gs) : ZE X N (.List es pos) (fun σ H d => ∃ r, gs σ H r ∧ r.length ≤ 1000 ∧ d = .list r) := ⟨PE.of (pe_lst h.pa) fun σ H Q ⟨d, ⟨r, hg, l, e⟩, p, k⟩ => by
  subst e
  refine ⟨r, hg, p, fun vs H1 z s => ⟨by rw [z.len]; exact Nat.le_trans l (by decide), fun a na => ?_⟩⟩
  have sa := same_upd (o := .lst vs) na
  exact k (.ref a) _ (.lst ((p.same s).off na) upd_same (by rw [z.len]; exact l) (z.same sa)) (s.trans sa),
  fun σ H H' d s ⟨r, a, b, e⟩ => ⟨r, h.mono _ _ _ _ s a, b, e⟩⟩
theorem zl_lst {es : List Expr} {gs : L2.St → Hp → List PyData → Prop} {pos : Pos} (h : ZS X N es gs) : ZL X N (.List es pos) (fun σ H r => gs σ H r ∧ r.length ≤ 1000) := ⟨PE.of (pe_lst h.pa) fun σ H Q ⟨r, ⟨hg, l⟩, p, k⟩ => by
  refine ⟨r, hg, p, fun vs H1 z s => ⟨by rw [z.len]; exact Nat.le_trans l (by decide), fun a na => ?_⟩⟩
  have sa := same_upd (o := .lst vs) na
  exact k a vs _ upd_same (z.same sa) (s.trans sa),
  fun σ H H' d s ⟨a, b⟩ => ⟨h.mono _ _ _ _ s a, b⟩⟩
theorem zl_slot {i : Nat} {e : Expr} (h : PE X e (tVar i)) : ZL X N e (fun σ H r => ∃ L vs, σ[i]? = some (some (.ref L)) ∧ H L = some (.lst vs) ∧ DzAll N H vs r) := ⟨PE.of h fun σ H Q ⟨r, ⟨L, vs, hs, hL, z⟩, _, k⟩ => ⟨_, hs, k L vs H hL z (fun _ _ e => e)⟩,
  fun σ H H' r s ⟨L, vs, a, b, z⟩ => ⟨L, vs, a, s _ _ b, z.same s⟩⟩
theorem zl_cat {a b : Expr} {pos : Pos} {g1 g2 : L2.St → Hp → List PyData → Prop} (ha : ZL X N a g1) (hb : ZL X N b g2) :
    ZL X N (.BinOp a .Add b pos) (fun σ H r => ∃ r1 r2, g1 σ H r1 ∧ g2 σ H r2 ∧ r1.length ≤ 1000 ∧ r2.length ≤ 1000 ∧ r = r1 ++ r2) := ⟨PE.of (pe_op op_cat ha.pe hb.pe) fun σ H Q ⟨r, ⟨r1, r2, h1, h2, l1, l2, e⟩, p, k⟩ => by
  subst e
  refine ⟨r1, h1, p, fun L1 v1 H1 e1 z1 s1 => ⟨r2, hb.mono _ _ _ _ s1 h2, p.same s1, fun L2 v2 H2 e2 z2 s2 => ⟨L1, L2, v1, v2, rfl, rfl, s2 _ _ e1, e2, ?_, fun q nq => ?_⟩⟩⟩
  · rw [z1.len, z2.len]
    exact Nat.le_trans (Nat.add_le_add l1 l2) (by decide)
  · have sp := same_upd (o := .lst (v1 ++ v2)) nq
    exact k q _ _ upd_same ((z1.same (s2.trans sp)).app (z2.same sp)) (s1.trans (s2.trans sp)),
  fun σ H H' d s ⟨r1, r2, a, b, c⟩ => ⟨r1, r2, ha.mono _ _ _ _ s a, hb.mono _ _ _ _ s b, c⟩⟩
theorem z_slot {i : Nat} {e : Expr} (h : PE X e (tVar i)) : ZE X N e (fun σ H d => ∃ v, σ[i]? = some (some v) ∧ Dz N H v d) := ⟨PE.of h fun σ H Q ⟨d, ⟨v, hs, z⟩, _, k⟩ => ⟨_, hs, k v H z (fun _ _ e => e)⟩,
  fun σ H H' r s ⟨v, a, z⟩ => ⟨v, a, z.same s⟩⟩
theorem z_c {e : Expr} {t : TE} {v : V} {d : PyData} (h : PE X e t) (q : ∀ σ H Q, Q v H → t σ H Q) (z : ∀ N H, Dz N H v d) : ZE X N e (fun _ _ e => e = d) := ⟨PE.of h fun σ H Q ⟨d, e, _, k⟩ => by
  subst e
  exact q _ _ _ (k v H (z _ _) (fun _ _ e => e)), fun _ _ _ _ _ h => h⟩
theorem z_i {e : Expr} {i : Int} (h : PE X e (tC (.int i))) : ZE X N e (fun _ _ e => e = .int i) := z_c h (fun _ _ _ q => q) (fun _ _ => .int i)
theorem z_b {e : Expr} {i : Bool} (h : PE X e (tC (.bl i))) : ZE X N e (fun _ _ e => e = .bool i) := z_c h (fun _ _ _ q => q) (fun _ _ => .bl i)
end
/-! ### rows, some -/
section
variable {P : Program} {w : World} {K : PySem.W.Frag} {mg : Str → Option Value} {base : Heap}

/-- rows: a list of lines -/
def spRows : Sp := fun vs H Q _ => ∃ (d c : Addr) (n : Int) (ns : List Int) (z : Str) (m b : Nat), vs = [.ref d, .str z, .int (m : Int), .int (b : Int)] ∧ PenAt H d c n ns ∧ n + 100 < 1000000 ∧ 0 < z.length ∧ z.length < 1000000 ∧ m ≤ 6 ∧ b ≤ 3 ∧
  ∀ (p : Addr) (rs : List Str) (H' : Hp), H' p = some (.lst (rs.map V.str)) → rs.length ≤ m → (∀ y ∈ rs, (∀ c ∈ cod y, c ∈ cod z) ∧ y.length ≤ b) → PenAt H' d c (n + 60) ns → But d H H' → H p = none → Q (.ref p) H'
abbrev nRows : List Str := ["_law_pen_here", "_law_signs_here", "_law_most_rows", "_law_most_letters", "_law_k"]
theorem scRs : FnScope nRows ["_law_pen_here", "_law_signs_here", "_law_most_rows", "_law_most_letters"] (defScope sRows) := ⟨rfl, rfl, rfl, by decide +kernel, rfl, by decide +kernel, by decide +kernel⟩
theorem ok_rows {f f1 f3 : Addr} {fd fd1 fd3 : FuncData} (F : Fun K "_law_rows" "_law_rows" sRows f fd) (mR : mg "range" = none) (DR : DrawAt P w K mg base f1 fd1) (RO : CallOf P w K mg base 3 "_law_row" ["_law_pen_here", "_law_signs_here", "_law_least", "_law_most_letters"] spRow f3 fd3) :
    FnOk P w K mg base CX0 4 f fd ["_law_pen_here", "_law_signs_here", "_law_most_rows", "_law_most_letters"] spRows := by
  refine F.ok scRs (fun vs H Q E h => ?_) (fun cdv A outer s H vs Q E hr h => ?_)
  · obtain ⟨d, c, n, ns, z, m, b, rfl, _⟩ := h
    rfl
  · obtain ⟨d, c, n, ns, z, m, b, rfl, pen, hn, z0, z1, hm, hb, q⟩ := h
    have hr1 : Room 1 _ := hr.mono (by decide)
    refine ⟨_, pss_one (by exact (ps_ret (pe_lc (own := [("_law_k", 4)]) (g := gName 4) (tt := tYes) (te := tCall spRow [] (fun _ _ _ => False) (tCons (tVar 0) (tCons (tVar 1) (tCons (tC (.int 0)) (tCons (tVar 3) tNil))))) rfl scRs.nd (pi_range1 rfl mR (pa_cons (pe_call DR.ok hr1 rfl DR.m DR.k DR.b .nil pass0 (pa_cons (pv 0) (pa_cons (pe_op op_add (pv 2) pe_int) pa_nil))) pa_nil))
          (blkOk_by (N := nRows) (sc := defScope sRows) (by decide +kernel)) (fun _ _ _ _ _ => by exact (pg_name (i := 4) scRs.nd rfl (Or.inl rfl))) (fun _ _ _ _ _ => by exact pts_nil)
          (fun _ _ _ _ _ => by exact (pe_call RO.ok hr rfl RO.m RO.k RO.b .nil pass0 (pa_cons (pv 0) (pa_cons (pv 1) (pa_cons pe_int (pa_cons (pv 3) pa_nil))))))))), ?_⟩
    have n0 := pen.n0
    refine ⟨_, rfl, _, rfl, _, _, rfl, rfl, d, c, n, ns, (m : Int) + 1, rfl, pen, by omega, by omega, by omega, fun r H1 r0 r1 p1 b1 => ⟨r, rfl, by omega, by omega, fun D nD => ?_⟩⟩
    obtain ⟨nDd, nDc⟩ := p1.fresh nD
    refine lc_range (fun i G => ∃ ys : List Str, G D = some (.lst (ys.map V.str)) ∧ ys.length = i ∧ (∀ y ∈ ys, (∀ c ∈ cod y, c ∈ cod z) ∧ y.length ≤ b) ∧ PenAt G d c (n + 1 + 4 * i) ns ∧ But d H G) ⟨[], upd_same, rfl, fun _ h => absurd h List.not_mem_nil, (by rw [show n + 1 + 4 * ((0 : Nat) : Int) = n + 1 by omega]; exact p1.put nDd nDc), b1.put (b1.none nDd nD)⟩ (fun i G hi p => ?_) (fun G p => ?_)
    · obtain ⟨ys, pD, yl, sm, pP, pB⟩ := p
      refine ⟨rfl, ?_⟩
      dsimp only [tYes]
      rw [if_pos rfl]
      have i7 : i < 7 := by omega
      refine ⟨_, rfl, _, rfl, _, rfl, d, c, n + 1 + 4 * i, ns, z, 0, (b : Int), rfl, pP, by omega, z0, z1, by decide, by omega, fun y G1 my l0 l2 p1 b2 => ?_⟩
      refine ⟨_, b2 _ _ pD nDd, Nat.lt_of_le_of_lt (by rw [List.length_map]; omega : _ ≤ 7) (by decide), ys ++ [y], ?_, by rw [List.length_append, yl]; rfl, ?_, ?_, (pB.trans b2).put (b1.none nDd nD)⟩
      · rw [List.map_append]
        exact upd_same
      · intro x hx
        rcases List.mem_append.mp hx with h | h
        · exact sm x h
        · rw [List.mem_singleton] at h
          subst h
          exact ⟨my, by omega⟩
      · refine (p1.put nDd nDc).le ?_
        omega
    · obtain ⟨ys, pD, yl, sm, pP, pB⟩ := p
      exact q D ys G pD (by omega) sm (pP.le (by omega)) pB (b1.none nDd nD)
end
end LA
end
section
set_option Elab.async false
set_option linter.all false
set_option maxRecDepth 100000
set_option maxHeartbeats 4100000
namespace LA
open PySem L2 XS XT LM XK XL LamX XO XV
theorem cut_strs (rs : List Str) (lo hi : Option Int) : ∃ ms : List Str, cutV (rs.map V.str) lo hi = ms.map V.str ∧ ms.length ≤ rs.length ∧ ∀ z ∈ ms, z ∈ rs := by
  unfold cutV
  rw [← List.map_drop, ← List.map_take]
  refine ⟨_, rfl, ?_, fun z hz => List.mem_of_mem_drop (List.mem_of_mem_take hz)⟩
  rw [List.length_take, List.length_drop]
  omega
def four_a : List Str := ["a", "a", "a", "a"]
def one_t : List Str := ["\t"]
theorem oks_a : OkS "a" := oks _ (by decide +kernel) (by decide +kernel)
theorem oks_t : OkS "\t" := oks _ (by decide +kernel) (by decide +kernel)
/-- a list of lines at slot i -/
def Rw (i : Nat) (σ : L2.St) (H : Hp) (rs : List Str) : Prop := ∃ R, σ[i]? = some (some (.ref R)) ∧ H R = some (.lst (rs.map V.str)) ∧ (∀ z ∈ rs, OkS z) ∧ rs.length ≤ 4
theorem Rw.same {i : Nat} {σ : L2.St} {H H' : Hp} {rs : List Str} (s : Same H H') (h : Rw i σ H rs) : Rw i σ H' rs := by
  obtain ⟨R, a, b, c⟩ := h
  exact ⟨R, a, s _ _ b, c⟩
section
variable {X : Cx} {N : Addr → Prop}
theorem z_cat4 {i : Nat} {e x f : Expr} {p1 p2 p3 : Pos} (h : PE X e (tVar i)) (hx : PE X x (tC (.str "a"))) (hf : PE X f (tC (.int 4))) (na : starEach [x] X.env = (false, eval x X.env) :: starEach [] X.env := by rfl) : ZE X N (.BinOp e .Add (.BinOp (.List [x] p1) .Mult f p2) p3) (fun σ H d => ∃ (rs : List Str), Rw i σ H rs ∧ d = .list ((rs ++ four_a).map PyData.str)) := ⟨PE.of (pe_op op_cat h (pe_op op_rep (pe_lst (pa_cons hx pa_nil na)) hf)) fun σ H Q ⟨d, ⟨rs, ⟨R, a, b, ok, l4⟩, e⟩, p, k⟩ => by
  subst e
  refine ⟨_, a, (by show 1 ≤ sizeLine; decide), fun l1 n1 => ⟨l1, 4, _, rfl, rfl, upd_same, by decide, by decide, by show 4 * 1 ≤ sizeLine; decide, fun l2 n2 => ?_⟩⟩
  have s1 := same_upd (o := .lst [.str "a"]) n1
  have s2 := same_upd (o := .lst (List.replicate (4 : Int).toNat [V.str "a"]).flatten) n2
  refine ⟨R, l2, _, _, rfl, rfl, (s1.trans s2) _ _ b, upd_same, ?_, fun p3 n3 => ?_⟩
  · rw [List.length_map]
    exact Nat.le_trans (show rs.length + 4 ≤ 8 by omega) (by decide)
  · have s3 := same_upd (o := .lst (rs.map V.str ++ (List.replicate (4 : Int).toNat [V.str "a"]).flatten)) n3
    have e : rs.map V.str ++ (List.replicate (4 : Int).toNat [V.str "a"]).flatten = (rs ++ four_a).map V.str := by
      rw [List.map_append]
      rfl
    refine k (.ref p3) _ (.lst (((p.same s1).same s2).off n3) upd_same ?_ ?_) (s1.trans (s2.trans s3))
    · rw [e, List.length_map, List.length_append]
      show rs.length + 4 ≤ 1000
      omega
    · rw [e]
      refine dz_strs fun z hz => ?_
      rcases List.mem_append.mp hz with h | h
      · exact ok z h
      · have : z = "a" := by simpa [four_a] using h
        rw [this]
        exact oks_a, fun σ H H' d s ⟨rs, a, b⟩ => ⟨rs, a.same s, b⟩⟩
theorem z_back {i : Nat} {x : Expr} {st : Expr} {t : L2.TE} {p1 p2 : Pos} (h : PE X st t) (q : ∀ σ H Q (R : Addr) (rs : List Str), σ[i]? = some (some (.ref R)) → H R = some (.lst (rs.map V.str)) → (∀ S, H S = none → Q (.ref S) (upd H S (.lst (cutV (rs.map V.str) none (some (-1)))))) → t σ H Q) (hx : PE X x (tC (.str "\t"))) (na : starEach [x] X.env = (false, eval x X.env) :: starEach [] X.env := by rfl) : ZE X N (.BinOp st .Add (.List [x] p1) p2) (fun σ H d => ∃ (rs ms : List Str), Rw i σ H rs ∧ cutV (rs.map V.str) none (some (-1)) = ms.map V.str ∧ d = .list ((ms ++ one_t).map PyData.str)) := ⟨PE.of (pe_op op_cat h (pe_lst (pa_cons hx pa_nil na))) fun σ H Q ⟨d, ⟨rs, ms, ⟨R, a, b, ok, l4⟩, ec, e⟩, p, k⟩ => by
  subst e
  obtain ⟨ms2, e2, l2, m2⟩ := cut_strs rs none (some (-1))
  have em : ms = ms2 := map_str_inj (ec.symm.trans e2)
  subst em
  refine q _ _ _ R rs a b fun S nS => ⟨(by show 1 ≤ sizeLine; decide), fun l1 n1 => ?_⟩
  rw [ec] at n1 ⊢
  have s1 := same_upd (o := .lst (ms.map V.str)) nS
  have s2 := same_upd (o := .lst [.str "\t"]) n1
  refine ⟨S, l1, _, _, rfl, rfl, s2 _ _ upd_same, upd_same, ?_, fun p3 n3 => ?_⟩
  · rw [List.length_map]
    exact Nat.le_trans (show ms.length + 1 ≤ 8 by omega) (by decide)
  · have s3 := same_upd (o := .lst (ms.map V.str ++ [.str "\t"])) n3
    have e : ms.map V.str ++ [.str "\t"] = (ms ++ one_t).map V.str := by
      rw [List.map_append]
      rfl
    refine k (.ref p3) _ (.lst (((p.same s1).same s2).off n3) upd_same ?_ ?_) (s1.trans (s2.trans s3))
    · rw [e, List.length_map, List.length_append]
      show ms.length + 1 ≤ 1000
      omega
    · rw [e]
      refine dz_strs fun z hz => ?_
      rcases List.mem_append.mp hz with h | h
      · exact ok z (m2 z h)
      · have : z = "\t" := by simpa [one_t] using h
        rw [this]
        exact oks_t, fun σ H H' d s ⟨rs, ms, a, b⟩ => ⟨rs, ms, a.same s, b⟩⟩
theorem z_tupOf {i : Nat} {e : Expr} (h : PE X e (tThen (tVar i) (kTup X.K))) : ZE X N e (fun σ H d => ∃ (rs : List Str), Rw i σ H rs ∧ d = .tuple (rs.map PyData.str)) := ⟨PE.of h fun σ H Q ⟨d, ⟨rs, ⟨R, a, b, ok, l4⟩, e⟩, p, k⟩ => by
  subst e
  refine ⟨_, a, .inl ⟨R, _, rfl, SqL.of b, fun q nq => ?_⟩⟩
  exact k (.ref q) _ (.tup (p.off nq) upd_same (by rw [List.length_map]; omega) (dz_strs ok)) (same_upd nq), fun σ H H' d s ⟨rs, a, b⟩ => ⟨rs, a.same s, b⟩⟩
end
section
variable {P : Program} {w : World} {K : PySem.W.Frag} {mg : Str → Option Value} {base : Heap}
/-- some: a block, or something like it -/
def spSome : Sp := fun vs H Q _ => ∃ (d c : Addr) (n : Int) (ns : List Int) (z : Str), vs = [.ref d, .str z] ∧ PenAt H d c n ns ∧ n + 100 < 1000000 ∧ Sgn z ∧
  ∀ (v : V) (e : PyData) (H' : Hp), Dz (fun a => a ≠ d ∧ H a = none) H' v e → PenAt H' d c (n + 30) ns → But d H H' → Q v H'
abbrev nSome : List Str := ["_law_pen_here", "_law_signs_here", "_law_rows_here", "_law_span", "_law_odd", "_law_some_here", "_law_k"]
theorem scSo : FnScope nSome ["_law_pen_here", "_law_signs_here"] (defScope sSome) := ⟨rfl, rfl, rfl, by decide +kernel, rfl, by decide +kernel, by decide +kernel⟩
theorem ok_some {f f1 f2 f3 f4 : Addr} {fd fd1 fd2 fd3 fd4 : FuncData} (F : Fun K "_law_some" "_law_some" sSome f fd) (mR : mg "range" = none) (mT : mg "tuple" = none) (DR : DrawAt P w K mg base f1 fd1) (PK : PickAt P w K mg base f2 fd2) (RO : CallOf P w K mg base 3 "_law_row" ["_law_pen_here", "_law_signs_here", "_law_least", "_law_most_letters"] spRow f3 fd3) (AN : CallOf P w K mg base 3 "_law_any_value" ["_law_pen_here"] spAny f4 fd4) :
    FnOk P w K mg base CX0 4 f fd ["_law_pen_here", "_law_signs_here"] spSome := by
  refine F.ok scSo (fun vs H Q E h => ?_) (fun cdv A outer s H vs Q E hr h => ?_)
  · obtain ⟨d, c, n, ns, z, rfl, _⟩ := h
    rfl
  · obtain ⟨d, c, n, ns, z, rfl, pen, hn, sz, q⟩ := h
    have hr1 : Room 1 _ := hr.mono (by decide)
    have hr2 : Room 2 _ := hr.mono (by decide)
    have hr3 := hr
    refine ⟨_, pss_cons (by exact (ps_par (i := 2) (j := 3) (by rfl) scSo.nd rfl rfl (by decide) rfl rfl (pa_cons (pe_lc (own := [("_law_k", 6)]) (g := gName 6) (tt := tYes) (te := tCall spRow [] (fun _ _ _ => False) (tCons (tVar 0) (tCons (tVar 1) (tCons (tC (.int 0)) (tCons (tC (.int 2)) tNil))))) rfl scSo.nd (pi_range1 rfl mR (pa_cons (pe_op op_add pe_int (pe_call DR.ok hr1 rfl DR.m DR.k DR.b .nil pass0 (pa_cons (pv 0) (pa_cons pe_int pa_nil)))) pa_nil))
          (blkOk_by (N := nSome) (sc := defScope sSome) (by decide +kernel)) (fun _ _ _ _ _ => by exact (pg_name (i := 6) scSo.nd rfl (Or.inl rfl))) (fun _ _ _ _ _ => by exact pts_nil)
          (fun _ _ _ _ _ => by exact (pe_call RO.ok hr3 rfl RO.m RO.k RO.b .nil pass0 (pa_cons (pv 0) (pa_cons (pv 1) (pa_cons pe_int (pa_cons pe_int pa_nil))))))) (pa_cons (pe_call PK.ok hr2 rfl PK.m PK.k PK.b .nil pass0 (pa_cons (pv 0) (pa_cons (pe_lst (pa_cons pe_int (pa_cons pe_int (pa_cons (pe_op op_pow pe_int pe_int) pa_nil)))) pa_nil))) pa_nil)) (by rfl)))
      (pss_cons (by exact (ps_if (pt_cmpR op_gt (pe_call DR.ok hr1 rfl DR.m DR.k DR.b .nil pass0 (pa_cons (pv 0) (pa_cons pe_int pa_nil))) pe_int (nomark _)) (pss_one (by exact (ps_ret (pe_call PK.ok hr2 rfl PK.m PK.k PK.b .nil pass0 (pa_cons (pv 0) (pa_cons (ZL.pe (N := fun a => a ≠ d ∧ H a = none) (zl_lst (zs_cons (z_tup (zs_cons (z_slot (pv 2)) (zs_cons (z_slot (pv 3)) zs_nil))) (zs_cons (z_tup (zs_cons (z_tupOf (i := 2) (pe_tupleOf rfl mT (pv 2))) (zs_cons (z_slot (pv 3)) zs_nil))) zs_nil)))) pa_nil)))))) pss_nil))
      (pss_cons (by exact (ps_set (i := 4) scSo.nd rfl (.inl rfl) (pe_call AN.ok hr3 rfl AN.m AN.k AN.b .nil pass0 (pa_cons (pv 0) pa_nil))))
      (pss_cons (by exact (ps_set (i := 5) scSo.nd rfl (.inl rfl) (ZL.pe (N := fun a => a ≠ d ∧ H a = none) (zl_lst (zs_cons (z_lst (zs_cons (z_slot (pv 2)) (zs_cons (z_slot (pv 3)) zs_nil))) (zs_cons (z_tup (zs_cons (z_slot (pv 2)) (zs_cons (z_i pe_int) zs_nil))) (zs_cons (z_tup (zs_cons (z_slot (pv 2)) (zs_cons (z_c (v := .int (10 ^ (30 : Int).toNat + 1)) (d := .int (10 ^ (30 : Int).toNat + 1)) (pe_op op_add (pe_op op_pow pe_int pe_int) pe_int) (fun _ _ _ q => ⟨_, _, rfl, rfl, ⟨by decide, by decide, by decide⟩, _, _, rfl, rfl, q⟩) fun _ _ => .int _) zs_nil))) (zs_cons (z_tup (zs_cons (z_slot (pv 2)) (zs_cons (z_b pe_bl) zs_nil))) (zs_cons (z_tup (zs_cons (z_slot (pv 2)) (zs_cons (z_c (v := .int (-1)) (d := .int (-1)) (pe_un un_neg pe_int) (fun _ _ _ q => ⟨_, rfl, q⟩) fun _ _ => .int _) zs_nil))) (zs_cons (z_tup (zs_cons (z_slot (pv 2)) (zs_cons (z_slot (pv 4)) zs_nil))) (zs_cons (z_tup (zs_cons (z_lst zs_nil) (zs_cons (z_i pe_int) zs_nil))) (zs_cons (z_tup (zs_cons (z_slot (pv 4)) (zs_cons (z_i pe_int) zs_nil))) zs_nil))))))))))))
      (pss_cons (by exact (ps_set (i := 5) scSo.nd rfl (.inl rfl) (ZL.pe (N := fun a => a ≠ d ∧ H a = none) (zl_cat (zl_slot (pv 5)) (zl_lst (zs_cons (z_tup (zs_cons (z_cat4 (pv 2) pe_str pe_int) (zs_cons (z_i pe_int) zs_nil))) (zs_cons (z_tup (zs_cons (z_back (i := 2) (pe_slice sl_list (pv 2) po_none (po_some (pe_un un_neg pe_int))) (fun σ H Q R rs a b k => ⟨_, a, _, rfl, _, rfl, R, _, rfl, SqL.of b, k⟩) pe_str) (zs_cons (z_i pe_int) zs_nil))) (zs_cons (z_tup (zs_cons (z_slot (pv 2)) zs_nil)) zs_nil))))))))
      (pss_one (by exact (ps_ret (pe_call PK.ok hr2 rfl PK.m PK.k PK.b .nil pass0 (pa_cons (pv 0) (pa_cons (ZL.pe (N := fun a => a ≠ d ∧ H a = none) (zl_cat (zl_slot (pv 5)) (zl_lst (zs_cons (z_tup (zs_cons (z_slot (pv 2)) (zs_cons (z_slot (pv 3)) (zs_cons (z_i pe_int) zs_nil)))) (zs_cons (z_slot (pv 4)) (zs_cons (z_tup (zs_cons (z_i pe_int) (zs_cons (z_slot (pv 2)) zs_nil))) zs_nil)))))) pa_nil)))))))))), ?_⟩
    have n0 := pen.n0
    have z2 := sz.two
    have z3 := sz.three
    refine ⟨_, rfl, d, c, n, ns, 4, rfl, pen, by omega, by decide, by decide, fun r H1 r0 r1 p1 b1 => ⟨_, _, rfl, rfl, 1 + r, rfl, by omega, by omega, fun R nR => ?_⟩⟩
    obtain ⟨nRd, nRc⟩ := p1.fresh nR
    have nR0 : H R = none := b1.none nRd nR
    have pnOf : ∀ {G : Hp} {m : Int}, PenAt G d c m ns → But d H G → Pn (fun a => a ≠ d ∧ H a = none) G := fun {G m} pG bG a ha => ⟨(pG.fresh ha).1, bG.none (pG.fresh ha).1 ha⟩
    refine lc_range (fun i G => ∃ ys : List Str, G R = some (.lst (ys.map V.str)) ∧ ys.length = i ∧ (∀ y ∈ ys, Sm z y) ∧ PenAt G d c (n + 1 + 3 * i) ns ∧ But d H G) ⟨[], upd_same, rfl, fun _ h => absurd h List.not_mem_nil, (by rw [show n + 1 + 3 * ((0 : Nat) : Int) = n + 1 by omega]; exact p1.put nRd nRc), b1.put (b1.none nRd nR)⟩ (fun i G hi p => ?_) (fun G p => ?_)
    · obtain ⟨ys, pD, yl, sm, pP, pB⟩ := p
      refine ⟨rfl, ?_⟩
      dsimp only [tYes]
      rw [if_pos rfl]
      have i4 : i < 4 := by omega
      refine ⟨_, rfl, _, rfl, d, c, n + 1 + 3 * i, ns, z, 0, 2, rfl, pP, by omega, by omega, by omega, by decide, by decide, fun y G1 my l0 l2 p2 b2 => ?_⟩
      refine ⟨_, b2 _ _ pD nRd, Nat.lt_of_le_of_lt (by rw [List.length_map]; omega : _ ≤ 4) (by decide), ys ++ [y], ?_, by rw [List.length_append, yl]; rfl, ?_, ?_, (pB.trans b2).put (b1.none nRd nR)⟩
      · rw [List.map_append]
        exact upd_same
      · intro x hx
        rcases List.mem_append.mp hx with h | h
        · exact sm x h
        · rw [List.mem_singleton] at h
          subst h
          exact ⟨my, by omega⟩
      · refine (p2.put nRd nRc).le ?_
        omega
    · obtain ⟨rs, hR, yl, sm, pP, pB⟩ := p
      have l4 : rs.length ≤ 4 := by omega
      have ok : ∀ y ∈ rs, OkS y := fun y hy => ⟨by have := (sm y hy).le; omega, lineB_chars ((sm y hy).line sz)⟩
      have pP := pP.le (show n + 1 + 3 * (((1 + r).toNat : Nat) : Int) ≤ n + 13 by omega)
      refine ⟨_, rfl, _, _, rfl, rfl, ⟨by decide, by decide, by decide⟩, (by show 3 ≤ sizeLine; decide), fun L nL => ?_⟩
      have sL := same_upd (o := .lst [.int 1, .int 2, .int ((10 : Int) ^ (30 : Int).toNat)]) nL
      refine ⟨d, c, n + 13, ns, _, rfl, pP.keep sL, by omega, .inl ⟨L, _, rfl, upd_same, (by show 0 < 3; decide), (by show 3 < 1000000; decide), fun sp H2 hsp p2 b2 => ⟨_, _, rfl, ?_⟩⟩⟩
      obtain ⟨k, rfl⟩ : ∃ k, sp = .int k := by
        simp only [List.mem_cons, List.not_mem_nil, or_false] at hsp
        rcases hsp with rfl | rfl | rfl <;> exact ⟨_, rfl⟩
      have hR2 := b2 _ _ (sL _ _ hR) nRd
      have B2 := (pB.trans (But.same sL)).trans b2
      refine ⟨_, rfl, d, c, n + 13 + 1, ns, 3, rfl, p2, by omega, by decide, by decide, fun r2 H3 q0 q1 p3 b3 => ⟨_, _, rfl, rfl, _, rfl, ?_⟩⟩
      have hR3 := b3 _ _ hR2 nRd
      have B3 := B2.trans b3
      have zOf : ∀ {G : Hp}, G R = some (.lst (rs.map V.str)) → Dz (fun a => a ≠ d ∧ H a = none) G (.ref R) (.list (rs.map PyData.str)) := fun h => .lst ⟨nRd, nR0⟩ h (by rw [List.length_map]; omega) (dz_strs ok)
      have fin : ∀ {L : Addr} {vs : List V} {es : List PyData} {G : Hp} {m : Int}, G L = some (.lst vs) → DzAll (fun a => a ≠ d ∧ H a = none) G vs es → 0 < vs.length → vs.length < 1000000 → PenAt G d c m ns → m ≤ n + 20 → But d H G → spPick [.ref d, .ref L] G Q E0 := fun {L vs es G m} hL zL l0 l1 pG hm BG =>
        ⟨d, c, m, ns, _, rfl, pG, by omega, .inl ⟨L, _, rfl, hL, l0, l1, fun v H' hv p' b' => by
          obtain ⟨e, _, ze⟩ := zL.mem hv
          exact q v e H' (ze.but b' (fun z => z.1 rfl)) (p'.le (by omega)) (BG.trans b')⟩⟩
      refine ite2 (fun _ => ?_) (fun _ => ?_)
      · have zR2 := zOf hR3
        have zK2 : Dz (fun a => a ≠ d ∧ H a = none) H3 (.int k) (.int k) := .int k
        have rw2 : Rw 2 [some (.ref d), some (.str z), some (.ref R), some (.int k), none, none, none] H3 rs := ⟨R, rfl, hR3, ok, l4⟩
        refine ⟨_, rfl, _, ⟨⟨_, _, ⟨_, ⟨_, _, ⟨_, rfl, zR2⟩, ⟨_, _, ⟨_, rfl, zK2⟩, rfl, rfl⟩, rfl⟩, (by show 2 ≤ 1000; decide), rfl⟩, ⟨_, _, ⟨_, ⟨_, _, ⟨rs, rw2, rfl⟩, ⟨_, _, ⟨_, rfl, zK2⟩, rfl, rfl⟩, rfl⟩, (by show 2 ≤ 1000; decide), rfl⟩, rfl, rfl⟩, rfl⟩, (by show 2 ≤ 1000; decide)⟩, pnOf p3 B3, fun L vs H4 hL zL s4 => ?_⟩
        exact fin hL zL (by rw [zL.len]; show 0 < 2; decide) (by rw [zL.len]; show 2 < 1000000; decide) (p3.keep s4) (by omega) (B3.trans (But.same s4))
      · refine ⟨_, rfl, d, c, n + 13 + 1 + 1, ns, rfl, p3, by omega, fun od eo H4 zo fo p4 b4 => ?_⟩
        replace zo := zo.imp (M := fun a => a ≠ d ∧ H a = none) fun a h => ⟨h.1, B3.none h.1 h.2⟩
        have hR4 := b4 _ _ hR3 nRd
        have B4 := B3.trans b4
        have zR3 := zOf hR4
        have zK3 : Dz (fun a => a ≠ d ∧ H a = none) H4 (.int k) (.int k) := .int k
        refine ⟨_, ⟨⟨_, _, ⟨_, ⟨_, _, ⟨_, rfl, zR3⟩, ⟨_, _, ⟨_, rfl, zK3⟩, rfl, rfl⟩, rfl⟩, (by show 2 ≤ 1000; decide), rfl⟩, ⟨_, _, ⟨_, ⟨_, _, ⟨_, rfl, zR3⟩, ⟨_, _, rfl, rfl, rfl⟩, rfl⟩, (by show 2 ≤ 1000; decide), rfl⟩, ⟨_, _, ⟨_, ⟨_, _, ⟨_, rfl, zR3⟩, ⟨_, _, rfl, rfl, rfl⟩, rfl⟩, (by show 2 ≤ 1000; decide), rfl⟩, ⟨_, _, ⟨_, ⟨_, _, ⟨_, rfl, zR3⟩, ⟨_, _, rfl, rfl, rfl⟩, rfl⟩, (by show 2 ≤ 1000; decide), rfl⟩, ⟨_, _, ⟨_, ⟨_, _, ⟨_, rfl, zR3⟩, ⟨_, _, rfl, rfl, rfl⟩, rfl⟩, (by show 2 ≤ 1000; decide), rfl⟩, ⟨_, _, ⟨_, ⟨_, _, ⟨_, rfl, zR3⟩, ⟨_, _, ⟨_, rfl, zo⟩, rfl, rfl⟩, rfl⟩, (by show 2 ≤ 1000; decide), rfl⟩, ⟨_, _, ⟨_, ⟨_, _, ⟨_, rfl, (by show 0 ≤ 1000; decide), rfl⟩, ⟨_, _, rfl, rfl, rfl⟩, rfl⟩, (by show 2 ≤ 1000; decide), rfl⟩, ⟨_, _, ⟨_, ⟨_, _, ⟨_, rfl, zo⟩, ⟨_, _, rfl, rfl, rfl⟩, rfl⟩, (by show 2 ≤ 1000; decide), rfl⟩, rfl, rfl⟩, rfl⟩, rfl⟩, rfl⟩, rfl⟩, rfl⟩, rfl⟩, rfl⟩, (by show 8 ≤ 1000; decide)⟩, pnOf p4 B4, fun L1 vs1 H5 hL1 zL1 s5 => ?_⟩
        have hR5 := s5 _ _ hR4
        have p5 := p4.keep s5
        have zR4 := zOf hR5
        have rw4 : Rw 2 [some (.ref d), some (.str z), some (.ref R), some (.int k), some od, some (.ref L1), none] H5 rs := ⟨R, rfl, hR5, ok, l4⟩
        obtain ⟨ms, ems, _, _⟩ := cut_strs rs none (some (-1))
        refine ⟨_, ⟨_, _, ⟨L1, vs1, rfl, hL1, zL1⟩, ⟨⟨_, _, ⟨_, ⟨_, _, ⟨rs, rw4, rfl⟩, ⟨_, _, rfl, rfl, rfl⟩, rfl⟩, (by show 2 ≤ 1000; decide), rfl⟩, ⟨_, _, ⟨_, ⟨_, _, ⟨rs, ms, rw4, ems, rfl⟩, ⟨_, _, rfl, rfl, rfl⟩, rfl⟩, (by show 2 ≤ 1000; decide), rfl⟩, ⟨_, _, ⟨_, ⟨_, _, ⟨_, rfl, zR4⟩, rfl, rfl⟩, (by show 1 ≤ 1000; decide), rfl⟩, rfl, rfl⟩, rfl⟩, rfl⟩, (by show 3 ≤ 1000; decide)⟩, (by show 8 ≤ 1000; decide), (by show 3 ≤ 1000; decide), rfl⟩, pnOf p5 (B4.trans (But.same s5)), fun L2 vs2 H6 hL2 zL2 s6 => ?_⟩
        have hR6 := s6 _ _ hR5
        have p6 := p5.keep s6
        have zR5 := zOf hR6
        have zK5 : Dz (fun a => a ≠ d ∧ H a = none) H6 (.int k) (.int k) := .int k
        have zo5 := (zo.same s5).same s6
        refine ⟨_, rfl, _, ⟨_, _, ⟨L2, vs2, rfl, hL2, zL2⟩, ⟨⟨_, _, ⟨_, ⟨_, _, ⟨_, rfl, zR5⟩, ⟨_, _, ⟨_, rfl, zK5⟩, ⟨_, _, rfl, rfl, rfl⟩, rfl⟩, rfl⟩, (by show 3 ≤ 1000; decide), rfl⟩, ⟨_, _, ⟨_, rfl, zo5⟩, ⟨_, _, ⟨_, ⟨_, _, rfl, ⟨_, _, ⟨_, rfl, zR5⟩, rfl, rfl⟩, rfl⟩, (by show 2 ≤ 1000; decide), rfl⟩, rfl, rfl⟩, rfl⟩, rfl⟩, (by show 3 ≤ 1000; decide)⟩, (by show 11 ≤ 1000; decide), (by show 3 ≤ 1000; decide), rfl⟩, pnOf p6 (B4.trans (But.same (s5.trans s6))), fun L3 vs3 H7 hL3 zL3 s7 => ?_⟩
        exact fin hL3 zL3 (by rw [zL3.len]; show 0 < 14; decide) (by rw [zL3.len]; show 14 < 1000000; decide) (p6.keep s7) (by omega) (B4.trans (But.same ((s5.trans s6).trans s7)))
end
end LA
end
section
set_option Elab.async false
set_option linter.all false
set_option maxRecDepth 100000
set_option maxHeartbeats 4100000
namespace XT
open PySem PySem.Spec PyProof.Rows L2
section
variable {X : Cx}
/-- repr of a truth -/
def rReprB : List V → Hp → VK → Prop := fun xs H Q => ∃ b : Bool, xs = [.bl b] ∧ Q (.str (if b then "True" else "False")) H
theorem call_reprB : CallR X (.builtin "repr") rReprB := by
  intro pins s σ
        H xs us Q I r h
  obtain ⟨b, rfl, q⟩ := h
  obtain ⟨u, rfl, e⟩ := vals1 r
  cases e
  exact PySem.P.repr_of_bool ⟨.str _, H, I.tok _, ⟨_, rfl⟩, q⟩
end
section
variable {X : Cx} {CX : CXT} {k : Nat} {f C : Addr} {fd : FuncData} {ps ks : List Str} {sp : Sp} {E : XK} {m : Str} {apos pos : Pos} {o : Expr} {kws : List Keyword} {ta : TE} {tk : TA} {g : List Value → List Value → List Value} {gV : List V → List V → List V} {pl : Sem Bool}
/-- a method by keywords alone: what it asks -/
def tMethKw (C : Addr) (m : Str) (sp : Sp) (gV : List V → List V → List V) (E : XK) (ta : TE) (tk : TA) : TE := fun σ H Q => ta σ H fun x H1 => ∃ a dx fs, x = .ref a ∧ H1 a = some (.ins C dx fs) ∧ fs.lookup m = none ∧ tk σ H1 fun zs H2 => sp (gV [x] zs) H2 Q E
theorem pe_methKw (he : PE X o ta) (c : Cls X.K C) (hm : Meth X.K C m f) (F : FnOk X.prog X.w X.K X.mg X.base CX k f fd ps sp) (hr : Room k X.A) (hb : KBinds X.K fd ps ks g gV) (hx : Passes CX X E) (hkw : PK X kws tk)
    (hall : (backToKw pos (keywordEach kws X.env)).all (·.1.isSome) = true := by rfl) (hks : (backToKw pos (keywordEach kws X.env)).filterMap (·.1) = ks := by rfl)
    (hpl : ((backTo pos (starEach [] X.env)).any (·.1) || (backToKw pos (keywordEach kws X.env)).any (·.1.isNone)) = false := by rfl)
    (ht : eval (.Call (.Attribute o m apos) [] kws pos) X.env = (do
      let ov ← eval o X.env
      standAt apos.atName
      let (f, first) ← holding [ov] (getMethod ov m pl)
      callWith pos f first (backTo pos (starEach [] X.env)) (backToKw pos (keywordEach kws X.env))) := by rfl) :
    PE X (.Call (.Attribute o m apos) [] kws pos) (tMethKw C m sp gV E ta tk) := by
  refine ⟨fun pins s σ H Q I h => ?_⟩
  refine PySem.W.methodCall_KW (pl := pl) (thn (he.run pins s σ H _ I h) fun u s1 ⟨x, H1, I1, rx, a, dx, fs, ex, ea, l, q⟩ => ?_) ht
  subst ex
  obtain rfl : u = Value.ref a := rx
  refine getmeth_ok I1 ea c hm l ?_
  refine PySem.W.callWith_KW0 (first := [.ref a]) (h₀ := X.base) I.ok.mod.kin hm.kp hall (thn (hkw.run pos pins s1 σ H1 _ I1 q) fun ws s2 ⟨zs, H2, I2, rz, q2⟩ => ⟨I2.kIn, ?_⟩) hpl
  rw [hks]
  exact run_fnk (us := [.ref a]) (vs := [.ref a]) F hr hb hx I2 (.cons rfl .nil) rz q2
end
end XT
end
section
set_option Elab.async false
set_option linter.all false
set_option maxRecDepth 100000
set_option maxHeartbeats 4100000
namespace ClX
open PySem PySem.Spec PyProof.Rows L2
/-! ### C.m(k = v), m a classmethod: by keywords alone -/
def tCMethKw (C : Addr) (sp : Sp) (gV : List V → List V → List V) (E : XK) (ta : TE) (tk : TA) : TE := fun σ H Q => ta σ H fun x H1 => x = .ref C ∧ tk σ H1 fun zs H2 => sp (gV [.ref C] zs) H2 Q E
section
variable {X : Cx} {CX : CXT} {k : Nat} {C p f : Addr} {mc : Value} {fd : FuncData} {ps ks : List Str} {sp : Sp} {E : XK} {m : Str} {apos pos : Pos} {o : Expr} {kws : List Keyword} {ta : TE} {tk : TA} {g : List Value → List Value → List Value} {gV : List V → List V → List V} {pl : Sem Bool}
theorem pe_cmethKw (he : PE X o ta) (r : CRead X.K C mc) (c : CMet X.K C mc m p f) (F : FnOk X.prog X.w X.K X.mg X.base CX k f fd ps sp) (hr : Room k X.A) (hb : KBinds X.K fd ps ks g gV) (hx : Passes CX X E) (hkw : PK X kws tk)
    (hall : (backToKw pos (keywordEach kws X.env)).all (·.1.isSome) = true := by rfl) (hks : (backToKw pos (keywordEach kws X.env)).filterMap (·.1) = ks := by rfl)
    (hpl : ((backTo pos (starEach [] X.env)).any (·.1) || (backToKw pos (keywordEach kws X.env)).any (·.1.isNone)) = false := by rfl)
    (ht : eval (.Call (.Attribute o m apos) [] kws pos) X.env = (do
      let ov ← eval o X.env
      standAt apos.atName
      let (f, first) ← holding [ov] (getMethod ov m pl)
      callWith pos f first (backTo pos (starEach [] X.env)) (backToKw pos (keywordEach kws X.env))) := by rfl) :
    PE X (.Call (.Attribute o m apos) [] kws pos) (tCMethKw C sp gV E ta tk) := by
  refine ⟨fun pins s σ H Q I h => ?_⟩
  refine PySem.W.methodCall_KW (pl := pl) (thn (he.run pins s σ H _ I h) fun u s1 ⟨x, H1, I1, rx, ex, q⟩ => ?_) ht
  subst ex
  obtain rfl : u = Value.ref C := rx
  refine getmethcm_ok I1 r c fun s2 I2 => ?_
  refine PySem.W.callWith_of (P := PySem.W.MethP X.K s1.heap.objs.size f (.ref C)) hpl (PySem.W.keeps_M c.fi) (evalArgs_kw2_nil hall (thn (hkw.run pos _ s2 σ H1 _ I2 q) fun ws s3 ⟨zs, H2, I3, rz, q2⟩ => ⟨⟨pin_at I3, I3.kIn⟩, ?_⟩))
  rw [hks]
  have r2 := hb.rel (Paired.cons (show RelV (.ref C) (.ref C) from rfl) .nil) rz
  have hl : (g [.ref C] ws).length = ps.length := by rw [← r2.length]; exact F.len _ _ _ _ q2
  have I4 := unpin I3
  refine wpAny_call (PySem.W.method_call (pin_at I3) (codeAny_mono (F.run X.A X.stack s3 H2 ⟨[.ref C], ks.zip ws⟩ (g [.ref C] ws) (gV [.ref C] zs) Q E hr I4.env0 (hb.to s3 [.ref C] ws I4.kIn hl) r2 q2) fun r s' hq => ?_))
  cases r with
  | error e => exact hx pins σ H2 s3 e s' I4 hq
  | ok fl =>
    cases fl with
    | ret u => exact I4.after hq
    | next => exact False.elim hq
    | brk => exact False.elim hq
    | cont => exact False.elim hq
end
end ClX
end
section
set_option Elab.async false
set_option linter.all false
set_option maxRecDepth 100000
set_option maxHeartbeats 4100000
namespace XL
open PySem PySem.Spec PyProof.Rows L2 LamX XK
/-! ### a list comprehension whose test calls with what its list holds: the test may lean on the def's own cells -/
section
variable {X : Cx}
/-- as tLc, the test's reading hangs on the def's slots -/
def tLcI (wi : TI) (g : TG) (tt : L2.St → TT) (te : TE) (vs : List Nat) : TE := fun σ H Q => tLc wi g (tt σ) te vs σ H Q
theorem pe_lcI {elt tg iter : Expr} {ifs : List Expr} {scope : Scope} {own : List (Str × Nat)} {pos : Pos} {wi : TI} {g : TG} {tt : L2.St → TT} {te : TE} (calm : X.calm = true) (dist : X.N.Nodup) (hi : PI X tg iter wi) (ok : BlkOk X.N X.env.scope scope own)
    (hg : ∀ (s : Shared) (H : Hp) (C : Addr) (cl : List (Str × Addr)) (fp : List Addr), PG (X.blk s H scope (compEnvC scope cl C X.env) fp) tg g)
    (ht : ∀ (pins : List (Addr × Obj)) (σ : L2.St) (s : Shared) (H : Hp) (C : Addr) (cl : List (Str × Addr)) (fp : List Addr), Inv X pins σ H s → (∀ y c, X.env.cells.lookup y = some c → c ∉ fp) → PTs (X.blk s H scope (compEnvC scope cl C X.env) fp) ifs (tt σ))
    (he : ∀ (s : Shared) (H : Hp) (C : Addr) (cl : List (Str × Addr)) (fp : List Addr), PE (X.blk s H scope (compEnvC scope cl C X.env) fp) elt te) (hs : ∀ x, foldedSetIterable iter X.env x = pure x := by intro _; rfl) :
    PE X (.ListComp elt [⟨tg, iter, ifs, 0⟩] scope pos) (tLcI wi g tt te (own.map (·.2))) := by
  refine ⟨fun pins s σ H Q I want => ?_⟩
  rw [eval_ListComp]
  have caught : ∀ y ∈ scope.names, y.2 = .free → ∃ c, X.env.cells.lookup y.1 = some c := fun y hy e => (ok.free y hy e).elim (fun k => I.ok.has _ (.inl k)) fun k => I.ok.has _ (.inr k)
  refine wpAny_comprehension_free (use := none) rfl hs (closure_ok caught) ok.kind (fun y hy e => by rw [ok.uniq y hy, e]) (thn (hi.run pins s σ H _ I want) fun xv s1 hx => thn hx fun itv s2 h2 => ?_)
  obtain ⟨it, fp, tn, J, H2, rfl, I2, T, st2, f2, rest⟩ := h2
  refine wpAny_newObj_type (newEnv_comp ?_) (by show 0 ≤ sizeLine; decide)
  obtain ⟨D, hD⟩ : ∃ D, D = s2.heap.objs.size := ⟨_, rfl⟩
  have dNone : H2 D = none := I2.hok.fresh (Nat.le_of_eq hD.symm)
  obtain ⟨W, ⟨m0, w0⟩, turn⟩ := rest D dNone
  rw [← hD]
  obtain ⟨s3, hs3⟩ : ∃ s3 : Shared, s3 = { s2 with heap := s2.heap.push { cls := .type "list", data := .seq ([] : List Value).toArray } } := ⟨_, rfl⟩
  have I3 : Inv X pins σ (upd H2 D (.lst [])) s3 := by
    subst hs3
    exact I2.laid (t' := s2.toks) (fun b o e => Heap.get?_push_of_some _ e) (Nat.le_of_eq hD.symm) ⟨Nat.zero_le _, [], 0, .nil, by rw [hD]; exact Heap.get?_push_size _ rfl⟩
  have heap3 : s3.heap = s2.heap.push { cls := .type "list", data := .seq ([] : List Value).toArray } := by rw [hs3]
  have f3 : ∀ b ∈ fp, FpOk X pins (upd H2 D (.lst [])) b ∧ b < s3.heap.objs.size := fun b hb => by
    obtain ⟨o, e, _⟩ := T.obj _ _ st2 b hb
    have lt := Heap.lt_size e
    refine ⟨⟨?_, (f2 b hb).2⟩, by rw [heap3, Heap.size_push]; exact Nat.lt_succ_of_lt lt⟩
    rw [upd_ne (by rw [hD]; exact Nat.ne_of_lt lt)]
    exact (f2 b hb).1
  have st3 : tn 0 s3.heap := T.keep _ _ _ st2 fun b _ o e => by rw [heap3]; exact Heap.get?_push_of_some _ e
  have cellsOut : ∀ y c, X.env.cells.lookup y = some c → c ∉ fp := fun y c e z => (f2 c z).2.2.2.2.1 y c e rfl
  have I4 := block_start I3 ok dist f3
  have pg := hg s3 (upd H2 D (.lst [])) s3.heap.objs.size (cellsFrom (s3.heap.objs.size + 1) scope.names (cloFrom X.env.cells scope.names [])) fp
  have pt := ht pins σ s3 (upd H2 D (.lst [])) s3.heap.objs.size (cellsFrom (s3.heap.objs.size + 1) scope.names (cloFrom X.env.cells scope.names [])) fp I3 cellsOut
  have pe := he s3 (upd H2 D (.lst [])) s3.heap.objs.size (cellsFrom (s3.heap.objs.size + 1) scope.names (cloFrom X.env.cells scope.names [])) fp
  have e3 : ({ s2 with heap := s2.heap.push { cls := .type "list", data := .seq ([] : List Value).toArray } } : Shared) = s3 := hs3.symm
  rw [e3]
  show codeAny _ _ (.compStart (.ListComp elt [⟨tg, iter, ifs, 0⟩] scope pos) 0 (.ref it) (.ref D) (compEnvC scope (cellsFrom (s3.heap.objs.size + 1) scope.names (cloFrom X.env.cells scope.names [])) s3.heap.objs.size X.env)) (compPost (model X.prog X.w) X.A X.xe none (EP X pins σ Q) (.ref D) s3.heap.objs.size) { s3 with heap := pushCells (s3.heap.push { cls := .type "dict", data := .dict #[] }) scope.names }
  generalize hce : compEnvC scope (cellsFrom (s3.heap.objs.size + 1) scope.names (cloFrom X.env.cells scope.names [])) s3.heap.objs.size X.env = ce at I4 pg pt pe ⊢
  have cL : ce.locals = s3.heap.objs.size := by subst hce; rfl
  have nfp : ∀ b ∈ fp, (upd H2 D (.lst [])) b = none := fun b hb => (f3 b hb).1.1
  generalize hH3 : upd H2 D (.lst []) = H3 at I3 I4 pg pt pe w0 nfp f3
  generalize hs4 : ({ s3 with heap := pushCells (s3.heap.push { cls := .type "dict", data := .dict #[] }) scope.names } : Shared) = s4 at I4 ⊢
  have st4 : tn 0 s4.heap := T.keep _ _ _ st3 fun b _ o e => by rw [← hs4]; exact pushCells_keeps _ _ _ _ (Heap.get?_push_of_some _ e)
  have stat : ∀ {σ' : L2.St} {H' : Hp} {s' : Shared}, Inv (X.blk s3 H3 scope ce fp) [] σ' H' s' → (∀ b ∈ fp, H' b = none) → ∀ b ∈ fp, FpOk (X.blk s3 H3 scope ce fp) [] H' b := fun {σ' H' s'} K' hn b hb =>
    ⟨hn b hb, (K'.ok.exf b hb).1, K'.ok.exfs b hb, .inl hb, fun x c e => (K'.ok.exf b hb).2 x c e, fun p hp => absurd (show p ∈ ([] : List (Addr × Obj)) ++ [] from hp) (by simp)⟩
  let At : Nat → Shared → Prop := fun n s' => ∃ i H', Inv (X.blk s3 H3 scope ce fp) [] (wipe σ (own.map (·.2))) H' s' ∧ tn i s'.heap ∧ (∀ b ∈ fp, H' b = none) ∧ W i n H'
  have loop : codeAny (model X.prog X.w) X.A (.compLoop (.ListComp elt [⟨tg, iter, ifs, 0⟩] scope pos) 0 (.ref it) (.ref D) ce) (compPost (model X.prog X.w) X.A X.xe none (EP X pins σ Q) (.ref D) s3.heap.objs.size) s4 := by
    refine compLoop_any At ?_ m0 ⟨0, H3, I4, st4, nfp, w0⟩
    rintro n s5 ⟨i, H5, I5, st5, n5, w5⟩
    cases turn i n H5 w5 with
    | inl over =>
      obtain ⟨stop, answer⟩ := over
      refine thnF (T.done (X.blk s3 H3 scope ce fp) rfl rfl rfl calm i [] s5 _ H5 (fun _ _ => False) I5 (stat I5 n5) st5 stop) fun r s6 ⟨hr, I6⟩ => ?_
      subst hr
      have I7 : Inv X pins σ H5 s6 := I3.call' (ch := fp) I6.os I6.base I6.hok I6.bare fun b hb => ⟨(f3 b hb).1.2.2.2.1, (f3 b hb).1.2.1, (f3 b hb).1.2.2.2.2.1, (f3 b hb).1.2.2.2.2.2⟩
      have gone : H5 s3.heap.objs.size = none := by
        have z : H5 ce.locals = none := I6.free
        rw [cL] at z
        exact z
      obtain ⟨m, hn, _⟩ := I6.loc
      have hn : s6.heap.Ns ce.locals m := hn
      rw [cL] at hn
      refine ⟨m, hn, fun h'' sb => ?_⟩
      obtain ⟨g0, g1, g2, g3, g4, g5⟩ := I3.fpOk (Nat.le_refl _) gone
      exact ⟨.ref D, H5, I7.turned (t' := s6.toks) (fun b o hb e => (sb.2 b hb).trans e) g0 g1 g3 g4 g5, rfl, answer⟩
    | inr more =>
      obtain ⟨go, Nx, hNx, step⟩ := more
      refine thnF (T.item (X.blk s3 H3 scope ce fp) rfl rfl rfl calm i [] s5 _ H5 (fun _ _ => False) I5 (stat I5 n5) st5 go) fun r s6 ⟨u, hr, h6⟩ => ?_
      subst hr
      refine thnF h6 fun _ s7 ⟨x, H7, I7, r7, y7, st7, n7⟩ => ?_
      have P7 := I7.pinned (stat I7 n7) (T.obj _ _ st7)
      refine thnF (pg.run _ s7 _ H7 x u _ P7 r7 (step x H7 y7)) fun _ s8 ⟨σ8, H8, I8, hw8, q8⟩ => ?_
      refine thnF (pt.run _ s8 σ8 H8 _ I8 q8) fun b s9 ⟨H9, I9, q9⟩ => ?_
      have fin : ∀ {s' : Shared} {H' : Hp}, Inv (X.blk s3 H3 scope ce fp) ([] ++ pinsAt fp s7.heap) σ8 H' s' → Nx H' → ∃ m, m < n ∧ At m s' := fun {s' H'} K' nx => by
        obtain ⟨m', lt, w'⟩ := hNx H' nx
        have still : ∀ b ∈ fp, ∀ o, s7.heap.get? b = some o → s'.heap.get? b = some o ∧ H' b = none := fun b hb o e => by
          have z := K'.pin (b, o) (List.mem_append_right _ (List.mem_append_right _ (mem_pinsAt hb e)))
          exact ⟨z.1, z.2.1⟩
        have len : (wipe σ (own.map (·.2))).length = σ8.length := by rw [← hw8, wipe_length]
        refine ⟨m', lt, i + 1, H', (K'.unpinned (pins := [])).weak len (fun j v e => ?_), T.keep _ _ _ st7 fun b hb o e => (still b hb o e).1, fun b hb => ?_, w'⟩
        · rw [← hw8] at e
          exact (wipe_some e).1
        · obtain ⟨o, e, _⟩ := T.obj _ _ st7 b hb
          exact (still b hb o e).2
      cases b with
      | false =>
        simp only [Bool.false_eq_true, if_false] at q9 ⊢
        exact fin I9 q9
      | true =>
        simp only [if_true] at q9 ⊢
        refine thnF (pe.run _ s9 σ8 H9 _ I9 q9) fun z s10 ⟨yv, H10, I10, r10, acc, hD10, hz10, nx⟩ => ?_
        exact app_ok (X := X.blk s3 H3 scope ce fp) I10 hD10 hz10 r10 fun s11 I11 => fin I11 nx
  exact codeAny_compStart_list loop (T.self X.A 0 _ _ _ st4 loop)
/-- the cells in the block of such a comprehension -/
theorem Caps.blk {pins pinsB : List (Addr × Obj)} {σ σB : L2.St} {s sB : Shared} {H HB : Hp} {scope : Scope} {ce : Env} {fp : List Addr} (I : Inv X pins σ H s) (out : ∀ y c, X.env.cells.lookup y = some c → c ∉ fp) (B : Inv (X.blk s H scope ce fp) pinsB σB HB sB) : Caps X σ HB sB.heap :=
  (Caps.of I).go B.base out
end
end XL
end
section
set_option Elab.async false
set_option linter.all false
set_option maxRecDepth 100000
set_option maxHeartbeats 4100000
namespace XL
open PySem PySem.Spec PyProof.Rows L2 LamX XK
/-- x(lambda: body) -/
theorem pe_goL {X : Cx} {T : List (Addr × Str)} {c P : Addr} (mk : Maker X T c P) {x a : Str} {g : Addr} {Ng : List Str} {sg : Scope} {cdv : Value} {bg : List Stmt} {TT : (XK → Hp → VK → Prop) → Hp → VK → Prop} {params : Arguments} {body : Expr} {scope : Scope} {k : Nat} {t : XK → TE} {p lpos pos : Pos}
    (G : Taker X x a g Ng sg cdv bg TT) (room : Room (k + 2) X.A) (hg : Gl X x) (L : LamS X.env.scope scope) (nodef : defaultsOf params X.env = ([], []))
    (noargs : ∀ (q : Str) (cl : List (Str × Addr)) (pm cv ctv : Value), bindArgs (PySem.W.kla_fn "<lambda>" q params body scope cl pm cv ctv) ⟨[], []⟩ = pure [])
    (does : ∀ (A : Around) (outer : List Env) (s : Shared) (H : Hp) (E : XK) (f c' : Addr), Room k (A.deeper (lamEnv X scope s.heap.objs.size f c')) → PE (lamCx X A outer s H E scope f c') body (t E))
    (hdb : (x == ("__debug__" : Str)) = false := by decide) (hd : (a == ("__debug__" : Str)) = false := by decide) (hcd : (a == ("__classdict__" : Str)) = false := by decide) :
    PE X (.Call (.Name x p) [.Lambda params body scope lpos] [] pos) (tLam T TT t) := by
  refine ⟨fun pins s σ H Q I want => ?_⟩
  obtain ⟨hT, h⟩ := want
  exact (pe_go (Kin.refl X) (M := fun σ => σ) (fun _ _ _ _ I => Caps.of I) G L rfl room (fun cl pm cv ctv => noargs _ cl pm cv ctv) does (pa_cons (pe_mk mk L nodef) pa_nil) hg hdb hd hcd).run pins s σ H Q I ⟨hT, fun f H1 e1 T1 nf il => ⟨f, rfl, il, h H1 e1 T1⟩⟩
end XL
end
section
set_option Elab.async false
set_option linter.all false
set_option maxRecDepth 100000
set_option maxHeartbeats 4100000
namespace LA
open PySem PySem.Spec PyProof.Rows L2 XS XT LM XK XL LamX XO XV ClX
/-! ### self by position, the rest by keyword -/
def g2 : List Value → List Value → List Value
  | [a], [b] => [a, b]
  | _, _ => []
def g2V : List V → List V → List V
  | [a], [b] => [a, b]
  | _, _ => []
def g3 : List Value → List Value → List Value
  | [a], [b, c] => [a, b, c]
  | _, _ => []
def g3V : List V → List V → List V
  | [a], [b, c] => [a, b, c]
  | _, _ => []
def g3r : List Value → List Value → List Value
  | [a], [b, c] => [a, c, b]
  | _, _ => []
def g3rV : List V → List V → List V
  | [a], [b, c] => [a, c, b]
  | _, _ => []
theorem g2_rel {vs zs : List V} {us ws : List Value} (r : Vals vs us) (q : Vals zs ws) : Vals (g2V vs zs) (g2 us ws) := by
  cases r with
  | nil => exact .nil
  | cons r1 r =>
    cases r with
    | cons _ _ => cases q <;> exact .nil
    | nil =>
      cases q with
      | nil => exact .nil
      | cons q1 q =>
        cases q with
        | nil => exact .cons r1 (.cons q1 .nil)
        | cons _ _ => exact .nil
theorem g3_rel {vs zs : List V} {us ws : List Value} (r : Vals vs us) (q : Vals zs ws) : Vals (g3V vs zs) (g3 us ws) := by
  cases r with
  | nil => exact .nil
  | cons r1 r =>
    cases r with
    | cons _ _ => cases q <;> exact .nil
    | nil =>
      cases q with
      | nil => exact .nil
      | cons q1 q =>
        cases q with
        | nil => exact .nil
        | cons q2 q =>
          cases q with
          | nil => exact .cons r1 (.cons q1 (.cons q2 .nil))
          | cons _ _ => exact .nil
theorem g3r_rel {vs zs : List V} {us ws : List Value} (r : Vals vs us) (q : Vals zs ws) : Vals (g3rV vs zs) (g3r us ws) := by
  cases r with
  | nil => exact .nil
  | cons r1 r =>
    cases r with
    | cons _ _ => cases q <;> exact .nil
    | nil =>
      cases q with
      | nil => exact .nil
      | cons q1 q =>
        cases q with
        | nil => exact .nil
        | cons q2 q =>
          cases q with
          | nil => exact .cons r1 (.cons q2 (.cons q1 .nil))
          | cons _ _ => exact .nil
theorem g2_len {us ws : List Value} (h : (g2 us ws).length = 2) : ∃ a b, us = [a] ∧ ws = [b] := by
  match us, ws, h with
  | [a], [b], _ => exact ⟨a, b, rfl, rfl⟩
  | [], _, h => exact absurd h (by show ¬ (0 = 2); decide)
  | [_], [], h => exact absurd h (by show ¬ (0 = 2); decide)
  | [_], _ :: _ :: _, h => exact absurd h (by show ¬ (0 = 2); decide)
  | _ :: _ :: _, _, h => exact absurd h (by show ¬ (0 = 2); decide)
theorem g3_len {us ws : List Value} (h : (g3 us ws).length = 3) : ∃ a b c, us = [a] ∧ ws = [b, c] := by
  match us, ws, h with
  | [a], [b, c], _ => exact ⟨a, b, c, rfl, rfl⟩
  | [], _, h => exact absurd h (by show ¬ (0 = 3); decide)
  | [_], [], h => exact absurd h (by show ¬ (0 = 3); decide)
  | [_], [_], h => exact absurd h (by show ¬ (0 = 3); decide)
  | [_], _ :: _ :: _ :: _, h => exact absurd h (by show ¬ (0 = 3); decide)
  | _ :: _ :: _, _, h => exact absurd h (by show ¬ (0 = 3); decide)
theorem g3r_len {us ws : List Value} (h : (g3r us ws).length = 3) : ∃ a b c, us = [a] ∧ ws = [b, c] := by
  match us, ws, h with
  | [a], [b, c], _ => exact ⟨a, b, c, rfl, rfl⟩
  | [], _, h => exact absurd h (by show ¬ (0 = 3); decide)
  | [_], [], h => exact absurd h (by show ¬ (0 = 3); decide)
  | [_], [_], h => exact absurd h (by show ¬ (0 = 3); decide)
  | [_], _ :: _ :: _ :: _, h => exact absurd h (by show ¬ (0 = 3); decide)
  | _ :: _ :: _, _, h => exact absurd h (by show ¬ (0 = 3); decide)
abbrev sCalled : Stmt := top 53
abbrev sMany : Stmt := top 54
theorem Same.extN {H H' : Hp} (s : Same H H') : ExtN H H' := fun b o e _ => s b o e
theorem bad_none_of {ds : List PyData} (h : ∀ d ∈ ds, blkD d = true) : badD ds = none := by
  unfold badD
  rw [List.findIdx?_eq_none_iff]
  intro d hd
  rw [h d hd]
  rfl
theorem bad_rep {d : PyData} (h : blkD d = true) (n : Nat) : badD (List.replicate n d) = none := bad_none_of fun e he => by rw [(List.mem_replicate.mp he).2]; exact h
theorem bad_last {ds : List PyData} {e : PyData} (h : badD ds = none) (he : blkD e = false) : badD (ds ++ [e]) = some ds.length := by
  unfold badD at h ⊢
  rw [List.findIdx?_append, h, List.findIdx?_cons, he]
  simp
theorem dz_rep {N : Addr → Prop} {H : Hp} {v : V} {d : PyData} (h : Dz N H v d) : ∀ n, DzAll N H (List.replicate n v) (List.replicate n d)
  | 0 => .nil
  | n + 1 => .cons h (dz_rep h n)
theorem pair_rep {α β : Type} {R : α → β → Prop} {a : α} {b : β} (h : R a b) : ∀ n, Paired R (List.replicate n a) (List.replicate n b)
  | 0 => .nil
  | n + 1 => .cons h (pair_rep h n)
theorem passE {X : Cx} {E : XK} (h : Takes X fun cls d σ H => E cls d H) : True := trivial
section
variable {P : Program} {w : World} {K : PySem.W.Frag} {mg : Str → Option Value} {base : Heap} {C DB DT DM DR : Addr}
/-- called: the long text of none to three values -/
def spCalled (C DB : Addr) : Sp := fun vs H Q E => ∃ (L : Addr) (us : List V) (N : Addr → Prop) (ds : List PyData), vs = [.ref L] ∧ H L = some (.lst us) ∧ DzAll N H us ds ∧ us.length ≤ 3 ∧ (∀ k, badD ds = some k → Refz DB "index" (.int (k : Int)) H E) ∧
  (badD ds = none → ∀ bs, Paired (fun b v => BkE N H b v) bs us → (∀ b ∈ bs, Vb b ∧ b.1.length ≤ 4) → ∀ (z : V) (H' : Hp), LT C H' bs z → Same H H' → Q z H')
theorem scCa : FnScope ["_law_some_here"] ["_law_some_here"] (defScope sCalled) := ⟨rfl, rfl, rfl, by decide +kernel, rfl, by decide +kernel, by decide +kernel⟩
theorem ok_called {f fI fA : Addr} {fd fdA : FuncData} (F : Fun K "_law_called" "_law_called" sCalled f fd) (mL : mg "len" = none) (G : LgAt P w K mg base C DB DM fI fA fdA) : FnOk P w K mg base (L2.CX P w) 7 f fd ["_law_some_here"] (spCalled C DB) := by
  refine F.okX scCa (fun vs H Q E h => ?_) (fun cdv A outer s H vs Q E hr h => ?_)
  · obtain ⟨L, us, N, ds, rfl, _⟩ := h
    rfl
  · obtain ⟨L, us, N, ds, rfl, hL, dz, l3, qB, q⟩ := h
    have hu6 := hr.units
    refine ⟨_, pss_cons (by exact (ps_if (pt_cmpR op_lt (pe_callB call_len_seq (by rfl) mL PySem.boot_len (pa_cons (pv 0) pa_nil)) pe_int (nomark _)) (pss_one (by exact (ps_ret (pe_ifExp (pt_cmpR (op_eqNil hu6) (pv 0) (pe_lst pa_nil) (nomark _)) (pe_makeVK (tk := tNil) (ks := []) G.mak G.ip hr rfl G.nm (passes_call (takes_of rfl rfl rfl rfl) (fun _ _ _ _ h => h)) pk_nil) (pe_makeV G.mak G.ip hr rfl G.nm (passes_call (takes_of rfl rfl rfl rfl) (fun _ _ _ _ h => h)) (pa_cons (pe_ix ix_list (pv 0) pe_int (fun _ _ => rfl)) pa_nil)))))) pss_nil))
      (pss_one (by exact (ps_ret (pe_ifExp (pt_cmpR op_eq (pe_callB call_len_seq (by rfl) mL PySem.boot_len (pa_cons (pv 0) pa_nil)) pe_int (nomark _)) (pe_makeV G.mak G.ip hr rfl G.nm (passes_call (takes_of rfl rfl rfl rfl) (fun _ _ _ _ h => h)) (pa_cons (pe_ix ix_list (pv 0) pe_int (fun _ _ => rfl)) (pa_cons (pe_ix ix_list (pv 0) pe_int (fun _ _ => rfl)) pa_nil))) (pe_makeV G.mak G.ip hr rfl G.nm (passes_call (takes_of rfl rfl rfl rfl) (fun _ _ _ _ h => h)) (pa_cons (pe_ix ix_list (pv 0) pe_int (fun _ _ => rfl)) (pa_cons (pe_ix ix_list (pv 0) pe_int (fun _ _ => rfl)) (pa_cons (pe_ix ix_list (pv 0) pe_int (fun _ _ => rfl)) pa_nil)))))))), ?_⟩
    have go : ∀ {H1 : Hp} {Q2 : VK} {x dx : Addr}, H1 x = none → H1 dx = none → dx ≠ x → Same H H1 → (∀ z H', Q z H' → Q2 z H') → spIP C DB DM (.ref x :: us) [] (upd (upd H1 dx (.own x)) x (.ins C dx [])) (fun v H3 => v = .non ∧ Q2 (.ref x) H3) E := fun {H1 Q2 x dx} nx nd ne s1 hq =>
      init_made (dz.same s1) (by omega) nx nd ne (fun k hk => (qB k hk).later s1) (fun _ h => absurd h (by omega)) fun bad _ bs pr vb H' lt s2 => ⟨rfl, hq _ _ (by
        obtain ⟨bs0, pr0, vb0⟩ := dz.blocks (bad_none bad)
        obtain rfl := pair_det s1 pr0 pr
        exact q bad bs0 pr0 vb0 _ H' lt (s1.trans s2))⟩
    refine ⟨_, rfl, L, us, rfl, .inl (SqL.of hL), _, _, rfl, rfl, _, rfl, ?_⟩
    by_cases c1 : us.length < 2
    · rw [decide_eq_true (show (us.length : Int) < 2 by omega)]
      refine iteT ⟨_, rfl, (by show 0 ≤ sizeLine; decide), fun p np => ⟨L, p, us, rfl, rfl, SqL.of (same_upd np _ _ hL), SqL.of upd_same, ne_of_none hL np, _, rfl, ?_⟩⟩
      have sp := same_upd (o := .lst []) np
      rcases us with _ | ⟨u, _ | ⟨u2, ur⟩⟩
      · exact iteT ⟨rfl, fun x dx nx nd ne => go nx nd ne sp fun _ _ h => h⟩
      · exact iteF ⟨_, rfl, L, _, 0, u, rfl, rfl, SqL.of (sp _ _ hL), rfl, rfl, fun x dx nx nd ne => go nx nd ne sp fun _ _ h => h⟩
      · exact absurd c1 (by simp)
    · rw [decide_eq_false (show ¬ (us.length : Int) < 2 by omega)]
      refine iteF ⟨_, rfl, L, us, rfl, .inl (SqL.of hL), rfl, _, rfl, ?_⟩
      rcases us with _ | ⟨u1, _ | ⟨u2, _ | ⟨u3, _ | ⟨u4, ur⟩⟩⟩⟩
      · exact absurd (by decide) c1
      · exact absurd (by show 1 < 2; decide) c1
      · exact iteT ⟨_, rfl, L, _, 0, u1, rfl, rfl, SqL.of hL, rfl, _, rfl, L, _, 1, u2, rfl, rfl, SqL.of hL, rfl, rfl, fun x dx nx nd ne => go nx nd ne (fun _ _ e => e) fun _ _ h => h⟩
      · exact iteF ⟨_, rfl, L, _, 0, u1, rfl, rfl, SqL.of hL, rfl, _, rfl, L, _, 1, u2, rfl, rfl, SqL.of hL, rfl, _, rfl, L, _, 2, u3, rfl, rfl, SqL.of hL, rfl, rfl, fun x dx nx nd ne => go nx nd ne (fun _ _ e => e) fun _ _ h => h⟩
      · exact absurd l3 (by simp)
/-- what the law knows of long texts -/
structure LgF (P : Program) (w : World) (K : PySem.W.Frag) (mg : Str → Option Value) (base : Heap) (C DB DT DM DR fI fA fN pN fB pB fL fP fO pO : Addr) (mc : Value) (fdA fdN fdB fdL fdP fdO : FuncData) : Prop where
  g : LgAt P w K mg base C DB DM fI fA fdA
  ln : FnOk P w K mg base CX0 2 fN fdN ["self"] (spLLen C)
  lnP : PropOf K C "length" pN fN
  lnB : Binds K fdN ["self"] []
  bk : FnOk P w K mg base CX0 1 fB fdB ["self"] (spBlks C)
  bkP : PropOf K C "blocks" pB fB
  bkB : Binds K fdB ["self"] []
  la : FnOk P w K mg base (L2.CX P w) 4 fL fdL ["self", "number"] (spLineAt C DR)
  laM : Meth K C "line_at" fL
  laB : Binds K fdL ["self", "number"] []
  laK : KBinds K fdL ["self", "number"] ["number"] g2 g2V
  pt : FnOk P w K mg base (L2.CX P w) 4 fP fdP ["self", "first", "last"] (spPart C DR)
  ptM : Meth K C "part" fP
  ptB : Binds K fdP ["self", "first", "last"] []
  ptK : KBinds K fdP ["self", "first", "last"] ["first", "last"] g3 g3V
  ptK2 : KBinds K fdP ["self", "first", "last"] ["last", "first"] g3r g3rV
  oR : CRead K C mc
  oM : CMet K C mc "of" pO fO
  oF : FnR P w K mg base (L2.CX P w) 7 fO (spOf C DT)
  o : FnOk P w K mg base (L2.CX P w) 7 fO fdO ["cls", "text"] (spOf C DT)
  oK : KBinds K fdO ["cls", "text"] ["text"] g2 g2V
/-- many_right -/
def spMany (T : List (Addr × Str)) : Sp := fun vs H Q _ => ∃ (N : Addr → Prop) (v : V) (e : PyData), vs = [v] ∧ Dz N H v e ∧ Tabs T H ∧ ∀ H', ExtN H H' → Tabs T H' → Q (.bl true) H'
abbrev nMany : List Str := ["_law_odd", "_law_b"]
theorem scMy : FnScope nMany ["_law_odd"] (defScope sMany) := ⟨rfl, rfl, rfl, by decide +kernel, rfl, by decide +kernel, by decide +kernel⟩
theorem ok_many {T : List (Addr × Str)} {f c PP g fI fA fN pN fB pB fL fP fO pO fb : Addr} {mc : Value} {fd fdg fdA fdN fdB fdL fdP fdO fdb : FuncData} (F : FunC K "_law_many_right" "_law_many_right" sMany f fd c) (TB : TabB base mg c PP) (here : (PP, lamQ "_law_many_right" sMany) ∈ T) (one : ∀ p ∈ T, p.1 = PP → p.2 = lamQ "_law_many_right" sMany)
    (TO : ToldAt K mg DB DT DM DR g fdg) (G : LgF P w K mg base C DB DT DM DR fI fA fN pN fB pB fL fP fO pO mc fdA fdN fdB fdL fdP fdO) (IB : CallOf P w K mg base 3 "_law_is_block" ["_law_thing"] (spQ blkD) fb fdb) :
    AtG P w K mg base CX0 12 f fd ["_law_odd"] (spMany T) := by
  refine F.atG scMy (fun vs H Q E h => ?_) (fun A outer s H vs Q E quiet hr h => ?_)
  · obtain ⟨N, v, e, rfl, _⟩ := h
    rfl
  · obtain ⟨N, v, e, rfl, hv, hT, q0⟩ := h
    have hu6 := hr.units
    have hr9 : Room 9 _ := hr.mono (by decide)
    have hr8 : Room 8 _ := hr.mono (by decide)
    have hr6 : Room 6 _ := hr.mono (by decide)
    have hr3 : Room 3 _ := hr.mono (by decide)
    obtain ⟨cdg, GT⟩ := ToldAt.taker (X := (cxOf CX0 P w K mg base nMany "_law_many_right" (defScope sMany) f (.ref c) A outer s H E).nox) quiet hr TO
    have mk : Maker (cxOf CX0 P w K mg base nMany "_law_many_right" (defScope sMany) f (.ref c) A outer s H E).nox T c PP := ⟨TB, rfl, here, one⟩
    refine ⟨_, pss_cons (by exact (ps_set (i := 1) scMy.nd rfl (Or.inr rfl) (pe_tup (pa_cons (pe_lst (pa_cons pe_str (pa_cons pe_str pa_nil))) (pa_cons pe_int pa_nil)))))
      (pss_cons (by exact (ps_if (pt_cmpR op_ne (pe_prop (pe_makeV G.g.mak G.g.ip hr6 rfl G.g.nm passN (pa_cons (pv 1) (pa_cons (pv 1) (pa_cons (pv 1) (pa_cons (pv 1) (pa_cons (pv 1) (pa_cons (pv 1) (pa_cons (pv 1) (pa_cons (pv 1) (pa_cons (pv 1) (pa_cons (pv 1) pa_nil))))))))))) G.g.k.cls G.lnP G.ln hr3 G.lnB .nil pass0 rfl) pe_int (nomark _)) (pss_one (by exact (ps_ret pe_bl))) pss_nil))
      (pss_cons (by exact (ps_if (pt_cmpR (op_neD hu6) (pe_goL mk GT hr8 rfl (lamS_by (sc := defScope sMany) (by decide +kernel)) rfl (fun _ _ _ _ _ => rfl) (fun A2 outer2 s2 H2 E2 f2 c2 r => by exact (pe_makeV G.g.mak G.g.ip r rfl G.g.nm (passes_call (takes_of rfl rfl rfl rfl) (fun _ _ _ _ h => h)) (pa_cons (pv 1) (pa_cons (pv 1) (pa_cons (pv 1) (pa_cons (pv 1) (pa_cons (pv 1) (pa_cons (pv 1) (pa_cons (pv 1) (pa_cons (pv 1) (pa_cons (pv 1) (pa_cons (pv 1) (pa_cons (pv 1) pa_nil)))))))))))))) (pe_tup (pa_cons pe_str (pa_cons pe_int (pa_cons pe_bl pa_nil)))) (nomark _)) (pss_one (by exact (ps_ret pe_bl))) pss_nil))
      (pss_cons (by exact (ps_if (pt_val (pe_call IB.ok hr3 rfl IB.m IB.k IB.b .nil pass0 (pa_cons (pv 0) pa_nil))) (pss_one (by exact (ps_ret pe_bl))) pss_nil))
      (pss_one (by exact (ps_ret (pe_cmpR (op_eqD hu6) (pe_goL mk GT hr8 rfl (lamS_by (sc := defScope sMany) (by decide +kernel)) rfl (fun _ _ _ _ _ => rfl) (fun A2 outer2 s2 H2 E2 f2 c2 r => by exact (pe_makeV G.g.mak G.g.ip r rfl G.g.nm (passes_call (takes_of rfl rfl rfl rfl) (fun _ _ _ _ h => h)) (pa_cons (pv 1) (pa_cons (pv 1) (pa_cons (pv 1) (pa_cons (pv 1) (pa_cons (pv 1) (pa_cons (pv 1) (pa_cons (pv 1) (pa_cons (pv 1) (pa_cons (pv 1) (pa_cons (pv 1) (pa_cons (pv 0) pa_nil)))))))))))))) (pe_tup (pa_cons pe_str (pa_cons pe_int (pa_cons pe_bl pa_nil)))) (nomark _)))))))), ?_⟩
    refine ⟨(by show 2 ≤ sizeLine; decide), fun a na => ⟨(by show 2 ≤ sizeLine; decide), fun t nt => ?_⟩⟩
    have sa := same_upd (o := .lst [.str "a", .str "b"]) na
    have st := same_upd (o := .tup [.ref a, .int 3]) nt
    have vb : Vb ((["a", "b"], 3) : Bk Str) := ⟨by decide, by decide, by decide, by decide, fun z hz => by
      rcases List.mem_cons.mp hz with h | h
      · rw [h]; exact ⟨by decide +kernel, by decide +kernel⟩
      · rw [List.mem_singleton.mp h]; exact ⟨by decide +kernel, by decide +kernel⟩⟩
    have four : ((["a", "b"], 3) : Bk Str).1.length ≤ 4 := by decide
    have b1 : BkE (fun _ => True) (upd (upd H a (.lst [.str "a", .str "b"])) t (.tup [.ref a, .int 3])) ((["a", "b"], 3) : Bk Str) (.ref t) := ⟨t, a, _, rfl, trivial, trivial, upd_same, st _ _ upd_same, .inl rfl⟩
    have z1 := hv.same (sa.trans st)
    have T1 := Tabs.same hT (sa.trans st)
    have s1 := sa.trans st
    generalize upd (upd H a (.lst [.str "a", .str "b"])) t (.tup [.ref a, .int 3]) = H1 at b1 z1 T1 s1 ⊢
    have all1 : ∀ n, ∀ c ∈ List.replicate n ((["a", "b"], 3) : Bk Str), Vb c ∧ c.1.length ≤ 4 := fun n c hc => by
      rw [(List.mem_replicate.mp hc).2]
      exact ⟨vb, four⟩
    obtain ⟨o1, d1⟩ := b1.dz vb
    have bk1 := blkD_bk vb four o1
    refine ⟨_, rfl, _, rfl, _, rfl, _, rfl, _, rfl, _, rfl, _, rfl, _, rfl, _, rfl, _, rfl, rfl, fun x dx nx nd ne => ?_⟩
    refine init_made (us := List.replicate 10 (.ref t)) (dz_rep d1 10) (by rw [List.length_replicate]; decide) nx nd ne (fun k hk => by rw [bad_rep bk1] at hk; cases hk) (fun _ h => absurd h (by rw [List.length_replicate]; decide)) fun _ _ bs pr _ H2 lt s2 => ⟨rfl, ?_⟩
    obtain rfl : bs = List.replicate 10 ((["a", "b"], 3) : Bk Str) := pair_det (fun _ _ e => e) pr (pair_rep b1 10)
    obtain ⟨ax, dx2, tx, ux, ex, hx, _⟩ := id lt
    injection ex with ex
    subst ex
    refine ⟨x, dx2, _, rfl, hx, _, _, rfl, lt, ⟨fun c hc => (all1 10 c hc).1, by decide⟩, fun H3 s3 => ⟨rfl, _, rfl, ?_⟩⟩
    rw [show ((wr (List.replicate 10 ((["a", "b"], 3) : Bk Str))).length : Int) = 60 by decide +kernel]
    refine iteF ?_
    have s13 := s2.trans s3
    have T3 := Tabs.same T1 s13
    have z3 := z1.same s13
    have b3 := b1.keep (Keeps.same s13) (fun _ z => z)
    refine ⟨T3, fun H4 e4 T4 => ?_⟩
    have z4 := z3.ext e4
    have b4 := b3.keep (Keeps.ext e4) (fun _ z => z)
    have d4 := (d1.same s13).ext e4
    refine ⟨_, rfl, _, rfl, _, rfl, _, rfl, _, rfl, _, rfl, _, rfl, _, rfl, _, rfl, _, rfl, _, rfl, rfl, fun x dx nx nd ne => ?_⟩
    refine init_made (us := List.replicate 11 (.ref t)) (dz_rep d4 11) (by rw [List.length_replicate]; decide) nx nd ne (fun k hk => by rw [bad_rep bk1] at hk; cases hk) (fun _ _ dd H5 nd5 s5 hd5 => ⟨dd, .int 10, rfl, .inr (.inr (.inl ⟨rfl, hd5, fun p np => ?_⟩))⟩) (fun _ h => absurd h (by rw [List.length_replicate]; decide))
    have sp := same_upd (o := .tup [.str "many", .int 10, .bl true]) np
    refine ⟨(by show 3 ≤ sizeLine; decide), fun q nq => ?_⟩
    have sq := same_upd (o := .tup [.str "many", .int 10, .bl true]) nq
    refine ⟨.tuple [.str "many", .int 10, .bool true], .tuple [.str "many", .int 10, .bool true], .tup (.inl (.inl (sq _ _ upd_same))) (.cons (.str _) (.cons (.int _) (.cons (.bl _) .nil))), .tup (.inl (.inl upd_same)) (.cons (.str _) (.cons (.int _) (.cons (.bl _) .nil))), by decide +kernel, by decide +kernel, _, rfl, ?_⟩
    rw [show PyData.eqv (.tuple [.str "many", .int 10, .bool true]) (.tuple [.str "many", .int 10, .bool true]) = true by decide +kernel]
    refine iteF ?_
    have s57 := s5.trans (sp.trans sq)
    have T7 := Tabs.same T4 s57
    have z7 := z4.same s57
    have d7 := d4.same s57
    have x7 : ExtN H (upd (upd H5 p (.tup [.str "many", .int 10, .bl true])) q (.tup [.str "many", .int 10, .bl true])) := ExtN.trans (ExtN.trans (Same.extN (s1.trans s13)) e4) (Same.extN s57)
    generalize upd (upd H5 p (.tup [.str "many", .int 10, .bl true])) q (.tup [.str "many", .int 10, .bl true]) = H7 at T7 z7 d7 x7 ⊢
    refine ⟨_, rfl, N, v, e, rfl, z7, fun H8 s8 => ⟨_, rfl, ?_⟩⟩
    have T8 := Tabs.same T7 s8
    cases eb : blkD e with
    | true => exact iteT (q0 H8 (ExtN.trans x7 (Same.extN s8)) T8)
    | false =>
      refine iteF ⟨T8, fun H9 e9 T9 => ?_⟩
      have z9 := (z7.same s8).ext e9
      have d9 := (d7.same s8).ext e9
      refine ⟨_, rfl, _, rfl, _, rfl, _, rfl, _, rfl, _, rfl, _, rfl, _, rfl, _, rfl, _, rfl, _, rfl, rfl, fun x dx nx nd ne => ?_⟩
      have bl := bad_last (bad_rep bk1 10) eb
      refine init_made (us := List.replicate 10 (.ref t) ++ [v]) (DzAll.app (dz_rep (N := fun _ => True) (d9.imp fun _ _ => trivial) 10) (.cons (z9.imp fun _ _ => trivial) .nil)) (by show 11 ≤ 1000; decide) nx nd ne (fun k hk => ?_) (fun h => by rw [bl] at h; cases h) (fun h => by rw [bl] at h; cases h)
      rw [bl] at hk
      injection hk with hk
      subst hk
      refine fun dd H10 nd10 s10 hd10 => ⟨dd, .int 10, rfl, .inl ⟨rfl, hd10, fun p np => ?_⟩⟩
      have sp := same_upd (o := .tup [.str "block", .int 10, .bl true]) np
      refine ⟨(by show 3 ≤ sizeLine; decide), fun q nq => ?_⟩
      have sq := same_upd (o := .tup [.str "block", .int 10, .bl true]) nq
      refine ⟨.tuple [.str "block", .int 10, .bool true], .tuple [.str "block", .int 10, .bool true], .tup (.inl (.inl (sq _ _ upd_same))) (.cons (.str _) (.cons (.int _) (.cons (.bl _) .nil))), .tup (.inl (.inl upd_same)) (.cons (.str _) (.cons (.int _) (.cons (.bl _) .nil))), by decide +kernel, by decide +kernel, ?_⟩
      rw [show PyData.eqv (.tuple [.str "block", .int 10, .bool true]) (.tuple [.str "block", .int 10, .bool true]) = true by decide +kernel]
      have s11 := s10.trans (sp.trans sq)
      exact q0 _ (ExtN.trans (ExtN.trans (ExtN.trans x7 (Same.extN s8)) e9) (Same.extN s11)) (Tabs.same T9 s11)
end
end LA
end
section
set_option Elab.async false
set_option linter.all false
set_option maxRecDepth 100000
set_option maxHeartbeats 8100000
namespace LA
open PySem PySem.Spec PyProof.Rows L2 XS XT LM XK XL LamX XO XV ClX
abbrev sAsked : Stmt := top 55
theorem wr_ok {bs : List (Bk Str)} (vb : ∀ b ∈ bs, Vb b) : ∀ z ∈ wr bs, lineB z = true ∧ z.length ≤ 30 := by
  intro z hz
  unfold wr one at hz
  rw [List.mem_flatten] at hz
  obtain ⟨l, hl, hz⟩ := hz
  obtain ⟨b, hb, rfl⟩ := List.mem_map.mp hl
  rw [List.mem_flatten] at hz
  obtain ⟨r, hr, hz⟩ := hz
  rw [(List.mem_replicate.mp hr).2] at hz
  exact (vb b hb).ok z hz
theorem wr_small : ∀ {bs : List (Bk Str)}, (∀ b ∈ bs, Vb b) → (wr bs).length ≤ bs.length * (100 * 10 ^ 30)
  | [], _ => Nat.zero_le _
  | b :: bs, h => by
    rw [wr_cons, List.length_append, len_one, List.length_cons]
    have v := h b (List.mem_cons_self ..)
    have i := wr_small (bs := bs) fun c hc => h c (List.mem_cons_of_mem _ hc)
    have m := Nat.mul_le_mul v.l4 v.t30
    rw [Nat.succ_mul]
    omega
theorem wr_int {bs : List (Bk Str)} (vb : ∀ b ∈ bs, Vb b) (few : bs.length ≤ 100) : (wr bs).length < 2 ^ 150 := by
  have h := wr_small vb
  have m : bs.length * (100 * 10 ^ 30) ≤ 100 * (100 * 10 ^ 30) := Nat.mul_le_mul_right _ few
  exact Nat.lt_of_le_of_lt (Nat.le_trans h m) (by decide)
theorem leaves_str {z : Str} (h : ∀ c ∈ cod z, c < 1114112) : PyData.leavesShort 8 (.str z) = true := by
  simp only [PyData.leavesShort, List.all_eq_true]
  exact fun c hc => decide_eq_true (Nat.lt_trans (h c hc) (by decide))
theorem shows_line {z : Str} (h : OkS z) : Shows (.tuple [.str "told", .str z]) := by
  refine shows_of rfl ?_ ?_ (by simp [PyData.depth, PyData.depthAll])
  · simp only [PyData.leavesShort, PyData.leavesShortAll, Bool.and_true, Bool.and_eq_true, List.all_eq_true]
    exact ⟨by decide, fun x hx => decide_eq_true (Nat.lt_trans (h.ch x hx) (by decide))⟩
  · simp only [PyData.weight, PyData.weightAll]
    have e : z.cps.size = z.length := rfl
    have e3 : (PySem.Str.ofString "told").cps.size = 4 := by decide +kernel
    have := h.few
    rw [e, e3]
    exact Nat.le_trans (show _ ≤ 100 by omega) (by decide)
theorem leaves_strs : ∀ {rs : List Str}, (∀ z ∈ rs, OkS z) → PyData.leavesShortAll 8 (rs.map PyData.str) = true
  | [], _ => rfl
  | z :: rs, h => by
    rw [List.map_cons]
    unfold PyData.leavesShortAll
    rw [leaves_str (h z (List.mem_cons_self ..)).ch, leaves_strs fun y hy => h y (List.mem_cons_of_mem _ hy)]
    rfl
theorem weight_strs : ∀ {rs : List Str}, (∀ z ∈ rs, OkS z) → PyData.weightAll (rs.map PyData.str) ≤ 31 * rs.length
  | [], _ => Nat.zero_le _
  | z :: rs, h => by
    rw [List.map_cons, List.length_cons]
    unfold PyData.weightAll
    have i := weight_strs (rs := rs) fun y hy => h y (List.mem_cons_of_mem _ hy)
    have w : PyData.weight (.str z) ≤ 30 := by
      unfold PyData.weight
      exact (h z (List.mem_cons_self ..)).few
    omega
theorem depth_strs : ∀ rs : List Str, PyData.depthAll (rs.map PyData.str) = 0
  | [] => rfl
  | z :: rs => by
    show max (PyData.depth (.str z)) (PyData.depthAll (rs.map PyData.str)) = 0
    rw [depth_strs rs]
    rfl
theorem showable_strs : ∀ rs : List Str, PyData.showableAll (rs.map PyData.str) = true
  | [] => rfl
  | z :: rs => by
    rw [List.map_cons]
    unfold PyData.showableAll
    rw [showable_strs rs]
    rfl
theorem shows_lines {rs : List Str} (h : ∀ z ∈ rs, OkS z) (l : rs.length ≤ 1000) : Shows (.tuple [.str "told", .list (rs.map PyData.str)]) := by
  refine shows_of ?_ ?_ ?_ ?_
  · show (true && (PyData.showableAll (rs.map PyData.str) && true)) = true
    rw [showable_strs]
    rfl
  · show (PyData.leavesShort 8 (.str "told") && (PyData.leavesShortAll 8 (rs.map PyData.str) && true)) = true
    rw [leaves_strs h]
    decide +kernel
  · have w := weight_strs h
    have e3 : PyData.weight (.str "told") = 4 := by decide +kernel
    simp only [PyData.weight, PyData.weightAll] at e3 ⊢
    rw [e3]
    exact Nat.le_trans (show _ ≤ 40000 by omega) (by decide)
  · show max (PyData.depth (.str "told")) (max (PyData.depthAll (rs.map PyData.str) + 1) 0) + 1 ≤ 60
    rw [depth_strs]
    decide
theorem dp_strs {K : PySem.W.Frag} {H : Hp} : ∀ rs : List Str, DpAll K H (rs.map V.str) (rs.map PyData.str)
  | [] => .nil
  | z :: r => .cons (.str z) (dp_strs r)
/-- the program's blocks, in a list -/
theorem LT.inList {C : Addr} {H : Hp} {bs : List (Bk Str)} {v : V} (h : LT C H bs v) : ∃ a dx t us, v = .ref a ∧ H a = some (.ins C dx [("_blocks", .ref t)]) ∧ H t = some (.tup us) ∧ ∀ (l : Addr) (H' : Hp), Same H H' → H' l = some (.lst us) → LBs H' l bs := by
  obtain ⟨a, dx, t, us, e, h1, h2, h3⟩ := h
  refine ⟨a, dx, t, us, e, h1, h2, fun l H' s hl => ⟨us, hl, L2.Paired.mapP h3 fun _ _ z => ?_⟩⟩
  obtain ⟨t, a, e, g1, g2⟩ := z
  exact ⟨t, a, _, e, trivial, trivial, s _ _ g1, s _ _ g2, .inr rfl⟩
section
variable {P : Program} {w : World} {K : PySem.W.Frag} {mg : Str → Option Value} {base : Heap} {C DB DT DM DR : Addr}
/-- asked_right -/
def spAsked (C : Addr) (T : List (Addr × Str)) : Sp := fun vs H Q _ => ∃ (d c : Addr) (n : Int) (ns : List Int) (p : Addr) (v : V) (bs cs : List (Bk Str)), vs = [.ref d, .ref p, v] ∧ PenAt H d c n ns ∧ n + 1000 < 1000000 ∧ LBs H p bs ∧ (∀ b ∈ bs, Vb b) ∧ bs.length ≤ 100 ∧ LT C H cs v ∧ Rb cs ∧ wr cs = wr bs ∧ Tabs T H ∧
  ∀ H', PenAt H' d c (n + 100) ns → Bx d H H' → Tabs T H' → Q (.bl true) H'
abbrev nAsked : List Str := ["_law_pen_here", "_law_blocks", "_law_made", "_law_size", "_law_spot", "_law_due", "_law_head", "_law_is_head", "_law_tip", "_law_k"]
theorem scAs : FnScope nAsked ["_law_pen_here", "_law_blocks", "_law_made"] (defScope sAsked) := ⟨rfl, rfl, rfl, by decide +kernel, rfl, by decide +kernel, by decide +kernel⟩
theorem ok_asked {T : List (Addr × Str)} {f c PP g fI fA fN pN fB pB fL fP fO pO fNU fLS fLL fGR fAN : Addr} {mc : Value} {fd fdg fdA fdN fdB fdL fdP fdO dNU dLS dLL dGR dAN : FuncData} (F : FunC K "_law_asked_right" "_law_asked_right" sAsked f fd c) (TB : TabB base mg c PP) (here : (PP, lamQ "_law_asked_right" sAsked) ∈ T) (one : ∀ p ∈ T, p.1 = PP → p.2 = lamQ "_law_asked_right" sAsked)
    (TO : ToldAt K mg DB DT DM DR g fdg) (G : LgF P w K mg base C DB DT DM DR fI fA fN pN fB pB fL fP fO pO mc fdA fdN fdB fdL fdP fdO)
    (mRe : mg "repr" = none) (mLi : mg "list" = none) (mI : mg "int" = none) (mX : mg "max" = none) (mM : mg "min" = none) (mR : mg "range" = none)
    (NU : CallOf P w K mg base 1 "_law_is_number" ["_law_thing", "_law_low", "_law_high"] spNum fNU dNU) (LS : CallOf P w K mg base 1 "_law_lsize" ["_law_blocks"] spLS fLS dLS) (LL : CallOf P w K mg base 1 "_law_lline" ["_law_blocks", "_law_slot"] spLL fLL dLL) (GR : CallOf P w K mg base 2 "_law_great" ["_law_pen_here", "_law_digits"] spGreat fGR dGR) (AN : CallOf P w K mg base 3 "_law_any_value" ["_law_pen_here"] spAny fAN dAN) :
    AtG P w K mg base CX0 12 f fd ["_law_pen_here", "_law_blocks", "_law_made"] (spAsked C T) := by
  refine F.atG scAs (fun vs H Q E h => ?_) (fun A outer s H vs Q E quiet hr h => ?_)
  · obtain ⟨d, c, n, ns, p, v, bs, cs, rfl, _⟩ := h
    rfl
  · obtain ⟨d, c0, n, ns, p, v, bs, cs, rfl, pen, hn, lb, vb, few, lt, rc, ew, hT, q⟩ := h
    have hu6 := hr.units
    have hr6 : Room 6 _ := hr.mono (by decide)
    have hr3 : Room 3 _ := hr.mono (by decide)
    have hr2 : Room 2 _ := hr.mono (by decide)
    have hr1 : Room 1 _ := hr.mono (by decide)
    have quiet2 : (A.deeper (envOfC "_law_asked_right" (defScope sAsked) s.heap.objs.size f (.ref c))).guards = some [] := quiet
    obtain ⟨cdg, GT⟩ := ToldAt.taker (X := (cxOf CX0 P w K mg base nAsked "_law_asked_right" (defScope sAsked) f (.ref c) A outer s H E).nox) quiet hr TO
    have mk : Maker (cxOf CX0 P w K mg base nAsked "_law_asked_right" (defScope sAsked) f (.ref c) A outer s H E).nox T c PP := ⟨TB, rfl, here, one⟩
    refine ⟨_, pss_cons (by exact (ps_set (i := 3) scAs.nd rfl (.inl rfl) (pe_call LS.ok hr1 rfl LS.m LS.k LS.b .nil pass0 (pa_cons (pv 1) pa_nil))))
      (pss_cons (by exact (ps_if (PW.pt (pw_or (pt_cmpR op_ne (pe_callB (call_repr quiet2 hu6) (by rfl) mRe (by decide +kernel) (pa_cons (pe_prop (pv 2) G.g.k.cls G.lnP G.ln hr3 G.lnB .nil pass0 rfl) pa_nil)) (pe_callB (call_repr quiet2 hu6) (by rfl) mRe (by decide +kernel) (pa_cons (pv 3) pa_nil)) (nomark _)) (pw_or1 (pt_cmpR op_ne (pe_call LS.ok hr1 rfl LS.m LS.k LS.b .nil pass0 (pa_cons (pe_callTy call_list_of (by rfl) mLi (by decide +kernel) (pa_cons (pe_prop (pv 2) G.g.k.cls G.bkP G.bk hr2 G.bkB .nil pass0 rfl) pa_nil)) pa_nil)) (pv 3) (nomark _))))) (pss_one (by exact (ps_ret pe_bl))) pss_nil))
      (pss_cons (by exact (ps_for PassesOwn.never rfl (pi_list (pe_lst (pa_cons pe_int (pa_cons (pv 3) (pa_cons (pe_op op_add pe_int (pe_op op_mod (pe_callTy call_int1 (by rfl) mI (by decide +kernel) (pa_cons (pe_call GR.ok hr2 rfl GR.m GR.k GR.b .nil pass0 (pa_cons (pv 0) (pa_cons pe_int pa_nil))) pa_nil)) (pe_callB (call_max2 rfl) (by rfl) mX (by decide +kernel) (pa_cons (pv 3) (pa_cons pe_int pa_nil))))) (pa_cons (pe_call AN.ok hr3 rfl AN.m AN.k AN.b .nil pass0 (pa_cons (pv 0) pa_nil)) (pa_cons pe_int (pa_cons (pe_op op_add (pv 3) pe_int) (pa_cons pe_bl (pa_cons pe_str pa_nil)))))))))) (by exact (pg_name (i := 4) scAs.nd rfl (Or.inr rfl))) (pss_cons (by exact (ps_set (i := 5) scAs.nd rfl (.inl rfl) (pe_ifExp (pt_val (pe_call NU.ok hr1 rfl NU.m NU.k NU.b .nil pass0 (pa_cons (pv 4) (pa_cons pe_int (pa_cons (pv 3) pa_nil))))) (pe_tup (pa_cons pe_str (pa_cons (pe_call LL.ok hr1 rfl LL.m LL.k LL.b .nil pass0 (pa_cons (pv 1) (pa_cons (pv 4) pa_nil))) pa_nil))) (pe_tup (pa_cons pe_str (pa_cons (pe_callB (call_repr quiet2 hu6) (by rfl) mRe (by decide +kernel) (pa_cons (pv 4) pa_nil)) (pa_cons pe_bl pa_nil)))))))
      (pss_cons (by exact (ps_if (pt_cmpR op_ne (pe_callB (call_repr quiet2 hu6) (by rfl) mRe (by decide +kernel) (pa_cons (pe_goL mk GT hr6 rfl (lamS_by (sc := defScope sAsked) (by decide +kernel)) rfl (fun _ _ _ _ _ => rfl) (fun A2 outer2 s2 H2 E2 f2 c2 r => by exact (pe_meth (pv 2) G.g.k.cls G.laM G.la r G.laB .nil (passes_call (takes_of rfl rfl rfl rfl) (fun _ _ _ _ h => h)) (pa_cons (pv 4) pa_nil)))) pa_nil)) (pe_callB (call_repr quiet2 hu6) (by rfl) mRe (by decide +kernel) (pa_cons (pv 5) pa_nil)) (nomark _)) (pss_one (by exact (ps_ret pe_bl))) pss_nil))
      (pss_one (by exact (ps_if (PW.pt (pw_and (pt_val (pe_call NU.ok hr1 rfl NU.m NU.k NU.b .nil pass0 (pa_cons (pv 4) (pa_cons pe_int (pa_cons (pv 3) pa_nil))))) (pw_and1 (pt_cmpR op_ne (pe_call LL.ok hr1 rfl LL.m LL.k LL.b .nil pass0 (pa_cons (pe_callTy call_list_of (by rfl) mLi (by decide +kernel) (pa_cons (pe_prop (pv 2) G.g.k.cls G.bkP G.bk hr2 G.bkB .nil pass0 rfl) pa_nil)) (pa_cons (pv 4) pa_nil))) (pe_ix ix_tup (pv 5) pe_int (fun _ _ => rfl)) (nomark _))))) (pss_one (by exact (ps_ret pe_bl))) pss_nil)))))))
      (pss_cons (by exact (ps_for PassesOwn.never rfl (pi_list (pe_lst (pa_cons pe_int (pa_cons (pv 3) (pa_cons (pe_op op_sub (pv 3) pe_int) (pa_cons (pe_callB (call_max2 rfl) (by rfl) mX (by decide +kernel) (pa_cons (pe_op op_sub (pv 3) pe_int) (pa_cons pe_int pa_nil))) (pa_cons pe_int (pa_cons (pe_op op_add (pv 3) pe_int) (pa_cons (pe_call AN.ok hr3 rfl AN.m AN.k AN.b .nil pass0 (pa_cons (pv 0) pa_nil)) pa_nil))))))))) (by exact (pg_name (i := 6) scAs.nd rfl (Or.inr rfl))) (pss_cons (by exact (ps_set (i := 7) scAs.nd rfl (.inl rfl) (pe_call NU.ok hr1 rfl NU.m NU.k NU.b .nil pass0 (pa_cons (pv 6) (pa_cons pe_int (pa_cons (pv 3) pa_nil))))))
      (pss_one (by exact (ps_for PassesOwn.never rfl (pi_list (pe_op op_cat (pe_lst (pa_cons (pv 3) (pa_cons (pv 6) (pa_cons (pe_call AN.ok hr3 rfl AN.m AN.k AN.b .nil pass0 (pa_cons (pv 0) pa_nil)) pa_nil)))) (pe_ifExp (pt_val (pv 7)) (pe_lst (pa_cons (pe_op op_add (pv 6) pe_int) (pa_cons (pe_op op_add (pv 6) pe_int) (pa_cons (pe_op op_add (pv 6) pe_int) pa_nil)))) (pe_lst pa_nil)))) (by exact (pg_name (i := 8) scAs.nd rfl (Or.inr rfl))) (pss_cons (by exact (ps_set (i := 5) scAs.nd rfl (.inl rfl) (pe_tup (pa_cons pe_str (pa_cons (pe_callB (call_repr quiet2 hu6) (by rfl) mRe (by decide +kernel) (pa_cons (pe_ifExp (pt_val (pv 7)) (pv 8) (pv 6)) pa_nil)) (pa_cons pe_bl pa_nil))))))
      (pss_cons (by exact (ps_if (PW.pt (pw_and (pt_val (pv 7)) (pw_and1 (pt_val (pe_call NU.ok hr1 rfl NU.m NU.k NU.b .nil pass0 (pa_cons (pv 8) (pa_cons (pv 6) (pa_cons (pe_callB (call_min2 rfl) (by rfl) mM (by decide +kernel) (pa_cons (pv 3) (pa_cons (pe_op op_add (pv 6) pe_int) pa_nil))) pa_nil)))))))) (pss_one (by exact (ps_set (i := 5) scAs.nd rfl (.inl rfl) (pe_tup (pa_cons pe_str (pa_cons (pe_lc (own := [("_law_k", 9)]) (g := gName 9) (tt := tYes) (te := tCall spLL [] (fun _ _ _ => False) (tCons (tVar 1) (tCons (tOp (rI0 fun i j => .int (i + j)) (tVar 6) (tVar 9)) tNil))) rfl scAs.nd (pi_range1 rfl mR (pa_cons (pe_op op_add (pe_op op_sub (pv 8) (pv 6)) pe_int) pa_nil))
          (blkOk_by (N := nAsked) (sc := defScope sAsked) (by decide +kernel)) (fun _ _ _ _ _ => by exact (pg_name (i := 9) scAs.nd rfl (Or.inl rfl))) (fun _ _ _ _ _ => by exact pts_nil)
          (fun _ _ _ _ _ => by exact (pe_call LL.ok hr1 rfl LL.m LL.k LL.b .nil pass0 (pa_cons (pv 1) (pa_cons (pe_op op_add (pv 6) (pv 9)) pa_nil))))) pa_nil)))))) pss_nil))
      (pss_one (by exact (ps_if (pt_cmpR op_ne (pe_callB (call_repr quiet2 hu6) (by rfl) mRe (by decide +kernel) (pa_cons (pe_goL mk GT hr6 rfl (lamS_by (sc := defScope sAsked) (by decide +kernel)) rfl (fun _ _ _ _ _ => rfl) (fun A2 outer2 s2 H2 E2 f2 c2 r => by exact (pe_meth (pv 2) G.g.k.cls G.ptM G.pt r G.ptB .nil (passes_call (takes_of rfl rfl rfl rfl) (fun _ _ _ _ h => h)) (pa_cons (pv 6) (pa_cons (pv 8) pa_nil))))) pa_nil)) (pe_callB (call_repr quiet2 hu6) (by rfl) mRe (by decide +kernel) (pa_cons (pv 5) pa_nil)) (nomark _)) (pss_one (by exact (ps_ret pe_bl))) pss_nil)))))))))))
      (pss_one (by exact (ps_ret pe_bl)))))), ?_⟩
    obtain ⟨a, dx, t, us, rfl, ha, ht, inl⟩ := lt.inList
    have hS : ((wr bs).length : Int).natAbs < 2 ^ 200 := Nat.lt_trans (wr_int vb few) (by decide)
    have hS1 := wr_int vb few
    have okw : ∀ z ∈ wr bs, OkS z := fun z hz => ⟨(wr_ok vb z hz).2, lineB_chars (wr_ok vb z hz).1⟩
    generalize hSe : ((wr bs).length : Int) = S at hS
    have fiS := fine_int hS
    refine ⟨_, rfl, p, bs, rfl, lb, vb, few, fun H1 s1 => ?_⟩
    rw [hSe]
    refine ⟨_, rfl, a, dx, _, rfl, s1 _ _ ha, cs, _, rfl, lt.same s1, rc, fun H2 s2 => ?_⟩
    rw [ew, hSe]
    refine ⟨_, _, rfl, .dp (.int _), fiS.sh, _, rfl, _, _, rfl, .dp (.int _), fiS.sh, rfl, _, rfl, ?_⟩
    rw [decide_eq_true rfl]
    have s12 := s1.trans s2
    refine iteF ⟨_, rfl, a, dx, _, rfl, s12 _ _ ha, a, dx, _, rfl, s12 _ _ ha, t, _, rfl, .inr (SqT.of (s12 _ _ ht)), fun l nl => ?_⟩
    have sl := s12.trans (same_upd (o := .lst us) nl)
    refine ⟨l, cs, rfl, inl l _ sl upd_same, rc.ok, rc.few, fun H3 s3 => ?_⟩
    rw [ew, hSe]
    refine ⟨_, rfl, rfl, _, rfl, ?_⟩
    rw [decide_eq_true rfl]
    refine iteF ?_
    have sA := sl.trans s3
    have pen3 := pen.keep sA
    have T3 := Tabs.same hT sA
    have lb3 := lb.same sA
    have lt3 := lt.same sA
    have bx3 : Bx d H H3 := Bx.same sA
    clear s3 sl nl s12 s2 s1
    have n0 := pen.n0
    refine ⟨_, rfl, _, rfl, d, c0, n, ns, 31, rfl, pen3, by omega, by decide, fun gq H4 hg p4 b4 => .inl ⟨_, rfl, _, rfl, _, _, rfl, _, _, rfl, rfl, (by split <;> omega), _, _, rfl, rfl, ?_⟩⟩
    refine ⟨_, rfl, d, c0, n + 31, ns, rfl, p4, by omega, fun od eo H5 zo fo p5 b5 => ⟨_, rfl, _, _, rfl, rfl, (by show 8 ≤ sizeLine; decide), fun L nL => ?_⟩⟩
    replace zo := zo.imp (M := fun a => a ≠ d) fun _ h => h.1
    have k3b : (1 + (gq : Int) % (if (1 : Int) > S then 1 else S)).natAbs < 2 ^ 200 := by
      have h1 : (0 : Int) < (if (1 : Int) > S then 1 else S) := by split <;> omega
      have h2 := Int.emod_nonneg (gq : Int) (Int.ne_of_gt h1)
      have h3 := Int.emod_lt_of_pos (gq : Int) h1
      have h4 : (if (1 : Int) > S then 1 else S) < 2 ^ 160 := by
        split
        · decide
        · omega
      omega
    have sL := same_upd (o := .lst [.int 1, .int S, (.int (1 + (gq : Int) % (if (1 : Int) > S then 1 else S))), od, .int 0, .int (S + 1), .bl true, .str "1"]) nL
    obtain ⟨kv3, hd3⟩ := pen3.dict
    obtain ⟨kv4, hd4⟩ := p4.dict
    have bx5 : Bx d H3 (upd H5 L (.lst [.int 1, .int S, (.int (1 + (gq : Int) % (if (1 : Int) > S then 1 else S))), od, .int 0, .int (S + 1), .bl true, .str "1"])) := ((Bx.but b4).trans (Bx.but b5)).trans (Bx.same sL)
    have T5 := Tabs.same (Tabs.but (Tabs.but T3 b4 hd3) b5 hd4) sL
    have lb5 := lb3.bx bx5 hd3
    have lt5 := lt3.bx bx5 hd3
    have p5' := p5.keep sL
    have nLd : L ≠ d := (p5.fresh nL).1
    have fin1 : ∀ {k : Int}, k.natAbs < 2 ^ 200 → ∃ e, Dz (fun a => a ≠ d) (upd H5 L (.lst [.int 1, .int S, (.int (1 + (gq : Int) % (if (1 : Int) > S then 1 else S))), od, .int 0, .int (S + 1), .bl true, .str "1"])) (.int k) e ∧ Fine e := fun h => ⟨_, .int _, fine_int h⟩
    have all1 : ∀ x ∈ [.int 1, .int S, (.int (1 + (gq : Int) % (if (1 : Int) > S then 1 else S))), od, .int 0, .int (S + 1), .bl true, .str "1"], ∃ e, Dz (fun a => a ≠ d) (upd H5 L (.lst [.int 1, .int S, (.int (1 + (gq : Int) % (if (1 : Int) > S then 1 else S))), od, .int 0, .int (S + 1), .bl true, .str "1"])) x e ∧ Fine e := fun x hx => by
      simp only [List.mem_cons, List.not_mem_nil, or_false] at hx
      rcases hx with rfl | rfl | rfl | rfl | rfl | rfl | rfl | rfl
      · exact fin1 (by decide)
      · exact fin1 hS
      · exact fin1 k3b
      · exact ⟨eo, zo.same sL, fo⟩
      · exact fin1 (by decide)
      · exact fin1 (by omega)
      · exact ⟨_, .bl _, fw1⟩
      · exact ⟨_, .str (oks _ (by decide +kernel) (by decide +kernel)), ⟨by decide +kernel, ⟨by decide +kernel, by decide +kernel, by decide +kernel⟩, ⟨by decide +kernel, by decide +kernel, by decide +kernel⟩, by decide +kernel⟩⟩
    have hL5 : upd H5 L (.lst [.int 1, .int S, (.int (1 + (gq : Int) % (if (1 : Int) > S then 1 else S))), od, .int 0, .int (S + 1), .bl true, .str "1"]) L = some (.lst [.int 1, .int S, (.int (1 + (gq : Int) % (if (1 : Int) > S then 1 else S))), od, .int 0, .int (S + 1), .bl true, .str "1"]) := upd_same
    generalize [V.int 1, .int S, (.int (1 + (gq : Int) % (if (1 : Int) > S then 1 else S))), od, .int 0, .int (S + 1), .bl true, .str "1"] = xs1 at hL5 all1 bx5 T5 lb5 lt5 p5' sL ⊢
    generalize upd H5 L (.lst xs1) = H6 at hL5 all1 bx5 T5 lb5 lt5 p5' sL ⊢
    have bx6 := bx3.trans bx5
    obtain ⟨kv6, hd6⟩ := p5'.dict
    refine ⟨L, rfl, ⟨_, SqL.of hL5⟩, for_it (walk_list (K := K) (a := L) (xs := xs1)) (fun i σ X => (∃ x4 x5 x6 x7 x8 x9 : Option V, σ = [some (.ref d), some (.ref p), some (.ref a), some (.int S), x4, x5, x6, x7, x8, x9]) ∧ PenAt X d c0 (n + 32) ns ∧ Bx d H6 X ∧ Tabs T X) ⟨⟨none, none, none, none, none, none, rfl⟩, p5'.le (by omega), Bx.refl, T5⟩ (fun i σ X _ pw => SqL.of (pw.2.2.1 _ _ hL5 nLd (fun _ z => by cases z))) (fun i x σ X X' hi pw yl => ?_) (fun σ X pw => ?_)⟩
    · obtain ⟨⟨x4, x5, x6, x7, x8, x9, rfl⟩, pX, bX, TX⟩ := pw
      obtain ⟨rfl, hx⟩ := yl
      obtain ⟨e, zx0, fe⟩ := all1 x (List.mem_of_getElem? hx)
      have zx := zx0.bx bX
      have lbX := lb5.bx bX hd6
      have ltX := lt5.bx bX hd6
      obtain ⟨kvX, hdX⟩ := pX.dict
      refine ⟨_, rfl, _, rfl, (fun a => a ≠ d), x, e, 1, S, rfl, zx, fun X1 s1 => ⟨_, rfl, ?_⟩⟩
      cases en : numD e 1 S with
      | true =>
        obtain ⟨k, rfl, k1, k2⟩ := numD_int en
        obtain rfl := zx.int_ (k := k) rfl
        obtain ⟨m, rfl⟩ : ∃ m : Nat, k = (m : Int) + 1 := ⟨(k - 1).toNat, by omega⟩
        have hm : m < (wr bs).length := by omega
        have hz : (wr bs)[m]? = some (wr bs)[m] := List.getElem?_eq_getElem hm
        generalize (wr bs)[m] = z at hz
        have oz : OkS z := okw z (List.mem_of_getElem? hz)
        refine iteT ⟨_, rfl, _, rfl, p, bs, _, m, rfl, rfl, lbX.same s1, vb, fun X2 s2 => ?_⟩
        rw [hz, show optS (some z) = V.str z from rfl]
        refine ⟨(by show 2 ≤ sizeLine; decide), fun D nD => ?_⟩
        have s3 := (s1.trans s2).trans (same_upd (o := .tup [.str "told", .str z]) nD)
        have hD : upd X2 D (.tup [.str "told", .str z]) D = some (.tup [.str "told", .str z]) := upd_same
        generalize upd X2 D (.tup [.str "told", .str z]) = X3 at hD s3 ⊢
        refine ⟨Tabs.same TX s3, fun X4 e4 T4 => ?_⟩
        have b4 : Bx d _ X4 := (Bx.same s3).trans (Bx.ext e4)
        have lt4 := ltX.bx b4 hdX
        have zx4 := zx.bx b4
        obtain ⟨a4, dx4, t4, us4, ea4, ha4, ht4, inl4⟩ := lt4.inList
        injection ea4 with ea4
        subst ea4
        refine ⟨_, rfl, a, dx4, _, rfl, ha4, rfl, _, rfl, cs, _, _, _, _, rfl, lt4, rc, zx4, (fun nn => by rw [ew, hSe, en] at nn; cases nn), fun m2 z2 em ez X5 s5 => ⟨(by show 2 ≤ sizeLine; decide), fun pp np => ?_⟩⟩
        have e2 : m2 = m := by
          injection em with em
          omega
        subst e2
        rw [ew, hz] at ez
        injection ez with ez
        subst ez
        have sp := same_upd (o := .tup [.str "told", .str z]) np
        have s6 := s5.trans sp
        have hD6 := s6 _ _ (e4 _ _ hD (fun _ z => by cases z))
        have hp6 : upd X5 pp (.tup [.str "told", .str z]) pp = some (.tup [.str "told", .str z]) := upd_same
        generalize upd X5 pp (.tup [.str "told", .str z]) = X6 at hD6 hp6 s6 ⊢
        refine ⟨_, .tuple [.str "told", .str z], rfl, .dp (.tup (.inl (.inl hp6)) (.cons (.str _) (.cons (.str _) .nil))), shows_line oz, _, rfl, _, .tuple [.str "told", .str z], rfl, .dp (.tup (.inl (.inl hD6)) (.cons (.str _) (.cons (.str _) .nil))), shows_line oz, rfl, _, rfl, ?_⟩
        rw [decide_eq_true rfl]
        refine iteF ?_
        refine ⟨_, rfl, _, rfl, _, _, _, 1, S, rfl, zx4.same s6, fun X7 s7 => ⟨_, rfl, ?_⟩⟩
        rw [en]
        have s67 := s6.trans s7
        refine iteT ⟨_, rfl, a, dx4, _, rfl, s67 _ _ ha4, a, dx4, _, rfl, s67 _ _ ha4, t4, _, rfl, .inr (SqT.of (s67 _ _ ht4)), fun l nl => ⟨_, rfl, l, cs, _, m2, rfl, rfl, inl4 l _ (s67.trans (same_upd nl)) upd_same, rc.ok, fun X8 s8 => ?_⟩⟩
        rw [ew, hz, show optS (some z) = V.str z from rfl]
        have s78 := (s7.trans (same_upd (o := .lst us4) nl)).trans s8
        refine ⟨_, rfl, D, _, 1, .str z, rfl, rfl, SqT.of (s78 _ _ hD6), rfl, rfl, _, rfl, ?_⟩
        rw [decide_eq_true rfl]
        have s48 := s6.trans s78
        exact iteF ⟨⟨_, _, _, _, _, _, rfl⟩, ((pX.keep s3).extN e4).keep s48, bX.trans (b4.trans (Bx.same s48)), Tabs.same T4 s48⟩
      | false =>
        refine iteF ⟨_, rfl, _, e, rfl, (zx.same s1).dx fe.ok, fe.sh, (by show 3 ≤ sizeLine; decide), fun D nD => ?_⟩
        have s3 := s1.trans (same_upd (o := .tup [.str "out", .str e.shown, .bl true]) nD)
        have hD : upd X1 D (.tup [.str "out", .str e.shown, .bl true]) D = some (.tup [.str "out", .str e.shown, .bl true]) := upd_same
        generalize upd X1 D (.tup [.str "out", .str e.shown, .bl true]) = X3 at hD s3 ⊢
        refine ⟨Tabs.same TX s3, fun X4 e4 T4 => ?_⟩
        have b4 : Bx d _ X4 := (Bx.same s3).trans (Bx.ext e4)
        have lt4 := ltX.bx b4 hdX
        have zx4 := zx.bx b4
        obtain ⟨a4, dx4, t4, us4, ea4, ha4, ht4, inl4⟩ := lt4.inList
        injection ea4 with ea4
        subst ea4
        refine ⟨_, rfl, a, dx4, _, rfl, ha4, rfl, _, rfl, cs, _, _, _, _, rfl, lt4, rc, zx4, (fun _ dd X5 nd s5 hd5 => ⟨dd, x, rfl, .inr (.inr (.inr ⟨rfl, hd5, e, (zx4.same s5).dx fe.ok, fe.sh, fun pp np => ?_⟩))⟩), fun m2 z2 em ez => ?_⟩
        · have sp := same_upd (o := .tup [.str "out", .str e.shown, .bl true]) np
          have s6 := s5.trans sp
          have hD6 := s6 _ _ (e4 _ _ hD (fun _ z => by cases z))
          have hp6 : upd X5 pp (.tup [.str "out", .str e.shown, .bl true]) pp = some (.tup [.str "out", .str e.shown, .bl true]) := upd_same
          generalize upd X5 pp (.tup [.str "out", .str e.shown, .bl true]) = X6 at hD6 hp6 s6 ⊢
          refine ⟨_, .tuple [.str "out", .str e.shown, .bool true], rfl, .dp (.tup (.inl (.inl hp6)) (.cons (.str _) (.cons (.str _) (.cons (.bl _) .nil)))), fe.out, _, rfl, _, .tuple [.str "out", .str e.shown, .bool true], rfl, .dp (.tup (.inl (.inl hD6)) (.cons (.str _) (.cons (.str _) (.cons (.bl _) .nil)))), fe.out, rfl, _, rfl, ?_⟩
          rw [decide_eq_true rfl]
          refine iteF ?_
          refine ⟨_, rfl, _, rfl, _, _, _, 1, S, rfl, zx4.same s6, fun X7 s7 => ⟨_, rfl, ?_⟩⟩
          rw [en]
          have s67 := s6.trans s7
          exact iteF (iteF ⟨⟨_, _, _, _, _, _, rfl⟩, ((pX.keep s3).extN e4).keep s67, bX.trans (b4.trans (Bx.same s67)), Tabs.same T4 s67⟩)
        · exfalso
          subst em
          rw [ew] at ez
          have l := (List.getElem?_eq_some_iff.mp ez).1
          have n1 : numD (.int ((m2 : Int) + 1)) 1 S = true := by
            show (decide ((1 : Int) ≤ (m2 : Int) + 1) && decide ((m2 : Int) + 1 ≤ S)) = true
            rw [decide_eq_true (by omega), decide_eq_true (by omega)]
            rfl
          rw [n1] at en
          cases en
    · obtain ⟨⟨x4, x5, x6, x7, x8, x9, rfl⟩, pX, bX, TX⟩ := pw
      have lbX := lb5.bx bX hd6
      have ltX := lt5.bx bX hd6
      have bxX := bx6.trans bX
      obtain ⟨kvX, hdX⟩ := pX.dict
      clear bX
      refine ⟨_, rfl, _, rfl, _, _, rfl, rfl, _, rfl, _, _, rfl, rfl, _, _, rfl, _, rfl, _, _, rfl, rfl, _, rfl, d, c0, n + 32, ns, rfl, pX, by omega, fun od1 eo1 H5' zo1 fo1 p51 b51 => ⟨(by show 7 ≤ sizeLine; decide), fun M nM => ?_⟩⟩
      replace zo1 := zo1.imp (M := fun a => a ≠ d) fun _ h => h.1
      have sM := same_upd (o := .lst [.int 1, .int S, .int (S - 3), .int (if (1 : Int) > S - 1999 then 1 else S - 1999), .int 0, .int (S + 1), od1]) nM
      have T51 := Tabs.same (Tabs.but TX b51 hdX) sM
      have bM : Bx d X (upd H5' M (.lst [.int 1, .int S, .int (S - 3), .int (if (1 : Int) > S - 1999 then 1 else S - 1999), .int 0, .int (S + 1), od1])) := (Bx.but b51).trans (Bx.same sM)
      have pM := p51.keep sM
      have nMd : M ≠ d := (p51.fresh nM).1
      have finM : ∀ {k : Int}, k.natAbs < 2 ^ 200 → ∃ e, Dz (fun a => a ≠ d) (upd H5' M (.lst [.int 1, .int S, .int (S - 3), .int (if (1 : Int) > S - 1999 then 1 else S - 1999), .int 0, .int (S + 1), od1])) (.int k) e ∧ Fine e := fun h => ⟨_, .int _, fine_int h⟩
      have allM : ∀ x ∈ ([.int 1, .int S, .int (S - 3), .int (if (1 : Int) > S - 1999 then 1 else S - 1999), .int 0, .int (S + 1), od1] : List V), ∃ e, Dz (fun a => a ≠ d) (upd H5' M (.lst [.int 1, .int S, .int (S - 3), .int (if (1 : Int) > S - 1999 then 1 else S - 1999), .int 0, .int (S + 1), od1])) x e ∧ Fine e := fun x hx => by
        simp only [List.mem_cons, List.not_mem_nil, or_false] at hx
        rcases hx with rfl | rfl | rfl | rfl | rfl | rfl | rfl
        · exact finM (by decide)
        · exact finM hS
        · exact finM (by omega)
        · exact finM (by split <;> omega)
        · exact finM (by decide)
        · exact finM (by omega)
        · exact ⟨eo1, zo1.same sM, fo1⟩
      have hM : upd H5' M (.lst [.int 1, .int S, .int (S - 3), .int (if (1 : Int) > S - 1999 then 1 else S - 1999), .int 0, .int (S + 1), od1]) M = some (.lst [.int 1, .int S, .int (S - 3), .int (if (1 : Int) > S - 1999 then 1 else S - 1999), .int 0, .int (S + 1), od1]) := upd_same
      have lM : ([.int 1, .int S, .int (S - 3), .int (if (1 : Int) > S - 1999 then 1 else S - 1999), .int 0, .int (S + 1), od1] : List V).length = 7 := rfl
      generalize ([.int 1, .int S, .int (S - 3), .int (if (1 : Int) > S - 1999 then 1 else S - 1999), .int 0, .int (S + 1), od1] : List V) = xs2 at hM allM T51 bM pM sM lM ⊢
      generalize upd H5' M (.lst xs2) = H7' at hM allM T51 bM pM sM ⊢
      obtain ⟨kvM, hdM⟩ := pM.dict
      have lbM := lbX.bx bM hdX
      have ltM := ltX.bx bM hdX
      have bxM := bxX.trans bM
      refine ⟨M, rfl, ⟨_, SqL.of hM⟩, for_it (walk_list (K := K) (a := M) (xs := xs2)) (fun i σ X => (∃ x4 x5 x6 x7 x8 x9 : Option V, σ = [some (.ref d), some (.ref p), some (.ref a), some (.int S), x4, x5, x6, x7, x8, x9]) ∧ PenAt X d c0 (n + 33 + i) ns ∧ Bx d H7' X ∧ Tabs T X) ⟨⟨_, _, _, _, _, _, rfl⟩, pM.le (by omega), Bx.refl, T51⟩ (fun i σ X _ pw => SqL.of (pw.2.2.1 _ _ hM nMd (fun _ z => by cases z))) (fun i xh σ H7 X' hi pw yl => ?_) (fun σ X pw => ?_)⟩
      rotate_left
      · obtain ⟨⟨x4, x5, x6, x7, x8, x9, rfl⟩, pX, bX, TX⟩ := pw
        exact q X (pX.le (by omega)) (bxM.trans bX) TX
      obtain ⟨⟨x4, x5, x6, x7, x8, x9, rfl⟩, p7, bX, T7⟩ := pw
      obtain ⟨rfl, hxh⟩ := yl
      have i7 : i < 7 := by omega
      obtain ⟨eh, zh0, fh⟩ := allM xh (List.mem_of_getElem? hxh)
      have zhX := zh0.bx bX
      have lb7 := lbM.bx bX hdM
      have lt7 := ltM.bx bX hdM
      obtain ⟨kv7, hd7⟩ := p7.dict
      refine ⟨_, rfl, _, rfl, (fun a => a ≠ d), xh, eh, 1, S, rfl, zhX, fun X8 s7 => ?_⟩
      have p7s := p7.keep s7
      have zh7 := zhX.same s7
      cases en : numD eh 1 S with
      | true =>
        obtain ⟨k, rfl, k1, k2⟩ := numD_int en
        obtain rfl := zhX.int_ (k := k) rfl
        obtain ⟨m, rfl⟩ : ∃ m : Nat, k = (m : Int) + 1 := ⟨(k - 1).toNat, by omega⟩
        refine ⟨_, rfl, _, rfl, _, rfl, d, c0, n + 33 + i, ns, rfl, p7s, by omega, fun od2 eo2 H8 zo2 fo2 p8 b8 => ⟨(by show 3 ≤ sizeLine; decide), fun L1 nL1 => ⟨_, rfl, _, rfl, iteT ⟨_, rfl, _, _, rfl, rfl, _, rfl, _, _, rfl, rfl, _, rfl, _, _, rfl, rfl, (by show 3 ≤ sizeLine; decide), fun L2 nL2 => ⟨L1, L2, _, _, rfl, rfl, same_upd nL2 _ _ upd_same, upd_same, (by show 3 + 3 ≤ sizeLine; decide), fun L3 nL3 => ?_⟩⟩⟩⟩⟩
        replace zo2 := zo2.imp (M := fun a => a ≠ d) fun _ h => h.1
        have sI := (same_upd (o := .lst [.int S, (.int ((m : Int) + 1)), od2]) nL1).trans ((same_upd (o := .lst [.int ((m : Int) + 1 + 2), .int ((m : Int) + 1 + 999), .int ((m : Int) + 1 + 1000)]) nL2).trans (same_upd (o := .lst ([.int S, (.int ((m : Int) + 1)), od2] ++ [.int ((m : Int) + 1 + 2), .int ((m : Int) + 1 + 999), .int ((m : Int) + 1 + 1000)])) nL3))
        have hI : upd (upd (upd H8 L1 (.lst [.int S, (.int ((m : Int) + 1)), od2])) L2 (.lst [.int ((m : Int) + 1 + 2), .int ((m : Int) + 1 + 999), .int ((m : Int) + 1 + 1000)])) L3 (.lst ([.int S, (.int ((m : Int) + 1)), od2] ++ [.int ((m : Int) + 1 + 2), .int ((m : Int) + 1 + 999), .int ((m : Int) + 1 + 1000)])) L3 = some (.lst ([.int S, (.int ((m : Int) + 1)), od2] ++ [.int ((m : Int) + 1 + 2), .int ((m : Int) + 1 + 999), .int ((m : Int) + 1 + 1000)])) := upd_same
        have zh8 := zh7.bx (Bx.but b8)
        have allI : ∀ x ∈ ([.int S, (.int ((m : Int) + 1)), od2] ++ [.int ((m : Int) + 1 + 2), .int ((m : Int) + 1 + 999), .int ((m : Int) + 1 + 1000)] : List V), ∃ e, Dz (fun a => a ≠ d) (upd (upd (upd H8 L1 (.lst [.int S, (.int ((m : Int) + 1)), od2])) L2 (.lst [.int ((m : Int) + 1 + 2), .int ((m : Int) + 1 + 999), .int ((m : Int) + 1 + 1000)])) L3 (.lst ([.int S, (.int ((m : Int) + 1)), od2] ++ [.int ((m : Int) + 1 + 2), .int ((m : Int) + 1 + 999), .int ((m : Int) + 1 + 1000)]))) x e ∧ Fine e := fun x hx => by
          simp only [List.mem_append, List.mem_cons, List.not_mem_nil, or_false] at hx
          rcases hx with (rfl | rfl | rfl) | (rfl | rfl | rfl)
          · exact ⟨_, .int _, fine_int hS⟩
          · exact ⟨_, zh8.same sI, fh⟩
          · exact ⟨eo2, zo2.same sI, fo2⟩
          · exact ⟨_, .int _, fine_int (by omega)⟩
          · exact ⟨_, .int _, fine_int (by omega)⟩
          · exact ⟨_, .int _, fine_int (by omega)⟩
        have TI := Tabs.same (Tabs.but (Tabs.same T7 s7) b8 (s7 _ _ hd7)) sI
        have pI := p8.keep sI
        have bI : Bx d X' _ := (Bx.same s7).trans ((Bx.but b8).trans (Bx.same sI))
        have zhI := zh8.same sI
        have nL3d : L3 ≠ d := (((p8.keep (same_upd (o := .lst [.int S, (.int ((m : Int) + 1)), od2]) nL1)).keep (same_upd (o := .lst [.int ((m : Int) + 1 + 2), .int ((m : Int) + 1 + 999), .int ((m : Int) + 1 + 1000)]) nL2)).fresh nL3).1
        generalize ([.int S, (.int ((m : Int) + 1)), od2] ++ [.int ((m : Int) + 1 + 2), .int ((m : Int) + 1 + 999), .int ((m : Int) + 1 + 1000)] : List V) = xs3 at hI allI TI pI bI zhI ⊢
        generalize upd (upd (upd H8 L1 (.lst [.int S, (.int ((m : Int) + 1)), od2])) L2 (.lst [.int ((m : Int) + 1 + 2), .int ((m : Int) + 1 + 999), .int ((m : Int) + 1 + 1000)])) L3 (.lst xs3) = HI at hI allI TI pI bI zhI ⊢
        obtain ⟨kvI, hdI⟩ := pI.dict
        have lbI := lb7.bx bI hd7
        have ltI := lt7.bx bI hd7
        refine ⟨L3, rfl, ⟨_, SqL.of hI⟩, for_it (walk_list (K := K) (a := L3) (xs := xs3)) (fun j σ Y => (∃ x4 x5 x8 x9 : Option V, σ = [some (.ref d), some (.ref p), some (.ref a), some (.int S), x4, x5, some (.int ((m : Int) + 1)), some (.bl true), x8, x9]) ∧ PenAt Y d c0 (n + 34 + i) ns ∧ Bx d HI Y ∧ Tabs T Y) ⟨⟨_, _, _, _, rfl⟩, pI.le (by omega), Bx.refl, TI⟩ (fun j σ Y _ pw => SqL.of (pw.2.2.1 _ _ hI nL3d (fun _ z => by cases z))) (fun j xt σ Y Y' hj pw yl => ?_) (fun σ Y pw => ?_)⟩
        rotate_left
        · obtain ⟨⟨y4, y5, y8, y9, rfl⟩, pY, bY, TY⟩ := pw
          exact ⟨⟨_, _, _, _, _, _, rfl⟩, pY.le (by omega), bX.trans (bI.trans bY), TY⟩
        obtain ⟨⟨y4, y5, y8, y9, rfl⟩, pY, bY, TY⟩ := pw
        obtain ⟨rfl, hxt⟩ := yl
        obtain ⟨et, zt0, ft⟩ := allI xt (List.mem_of_getElem? hxt)
        have zt := zt0.bx bY
        have zhY := zhI.bx bY
        have lbY := lbI.bx bY hdI
        have ltY := ltI.bx bY hdI
        obtain ⟨kvY, hdY⟩ := pY.dict
        refine ⟨_, rfl, _, rfl, iteT ⟨_, rfl, _, et, rfl, zt.dx ft.ok, ft.sh, (by show 3 ≤ sizeLine; decide), fun D nD => ?_⟩⟩
        have s1 := same_upd (o := .tup [.str "out", .str et.shown, .bl true]) nD
        have hD1 : upd Y' D (.tup [.str "out", .str et.shown, .bl true]) D = some (.tup [.str "out", .str et.shown, .bl true]) := upd_same
        generalize upd Y' D (.tup [.str "out", .str et.shown, .bl true]) = X1 at hD1 s1 ⊢
        refine ⟨_, rfl, _, rfl, iteT ⟨_, rfl, _, rfl, _, rfl, _, rfl, _, _, rfl, rfl, _, _, rfl, (fun a => a ≠ d), xt, et, (m : Int) + 1, _, rfl, zt.same s1, fun X2 s2 => ⟨_, rfl, ?_⟩⟩⟩
        have s3 := s1.trans s2
        have emin : (if (m : Int) + 1 + 999 < S then (m : Int) + 1 + 999 else S) = min S ((m : Int) + 1 + 999) := by split <;> omega
        rw [emin]
        cases en2 : numD et ((m : Int) + 1) (min S ((m : Int) + 1 + 999)) with
        | false =>
          have hD := s2 _ _ hD1
          refine iteF ?_
          refine ⟨Tabs.same TY s3, fun X4 e4 T4 => ?_⟩
          have b4 : Bx d _ X4 := (Bx.same s3).trans (Bx.ext e4)
          have lt4 := ltY.bx b4 hdY
          have zh4 := zhY.bx b4
          have zt4 := zt.bx b4
          obtain ⟨a4, dx4, t4, us4, ea4, ha4, ht4, inl4⟩ := lt4.inList
          injection ea4 with ea4
          subst ea4
          refine ⟨_, rfl, a, dx4, _, rfl, ha4, rfl, _, rfl, _, rfl, cs, _, _, _, _, _, _, _, rfl, lt4, rc, zh4, zt4, (fun hk => by rw [ew, hSe, en] at hk; cases hk), (fun k ek hk nk dd X5 nd s5 hd5 => ⟨dd, xt, rfl, .inr (.inr (.inr ⟨rfl, hd5, et, (zt4.same s5).dx ft.ok, ft.sh, fun pp np => ?_⟩))⟩), fun m2 g2 em eg l1 l2 l3 => ?_⟩
          · have sp := same_upd (o := .tup [.str "out", .str et.shown, .bl true]) np
            have s6 := s5.trans sp
            have hD6 := s6 _ _ (e4 _ _ hD (fun _ z => by cases z))
            have hp6 : upd X5 pp (.tup [.str "out", .str et.shown, .bl true]) pp = some (.tup [.str "out", .str et.shown, .bl true]) := upd_same
            generalize upd X5 pp (.tup [.str "out", .str et.shown, .bl true]) = X6 at hD6 hp6 s6 ⊢
            refine ⟨_, .tuple [.str "out", .str et.shown, .bool true], rfl, .dp (.tup (.inl (.inl hp6)) (.cons (.str _) (.cons (.str _) (.cons (.bl _) .nil)))), ft.out, _, rfl, _, .tuple [.str "out", .str et.shown, .bool true], rfl, .dp (.tup (.inl (.inl hD6)) (.cons (.str _) (.cons (.str _) (.cons (.bl _) .nil)))), ft.out, rfl, _, rfl, ?_⟩
            rw [decide_eq_true rfl]
            exact iteF ⟨⟨_, _, _, _, rfl⟩, ((pY.keep s3).extN e4).keep s6, bY.trans (b4.trans (Bx.same s6)), Tabs.same T4 s6⟩
          · exfalso
            injection em with em
            have e2 : m2 = m := by omega
            subst e2
            subst eg
            rw [ew] at l2
            have n1 : numD (.int (g2 : Int)) ((m2 : Int) + 1) (min S ((m2 : Int) + 1 + 999)) = true := by
              show (decide ((m2 : Int) + 1 ≤ (g2 : Int)) && decide ((g2 : Int) ≤ min S ((m2 : Int) + 1 + 999))) = true
              rw [decide_eq_true (by omega), decide_eq_true (by omega)]
              rfl
            rw [n1] at en2
            cases en2
        | true =>
          obtain ⟨gi, rfl, gA, gB⟩ := numD_int en2
          obtain rfl := zt.int_ (k := gi) rfl
          obtain ⟨g, rfl⟩ : ∃ g : Nat, gi = (g : Int) := ⟨gi.toNat, by omega⟩
          have gm : m < g := by omega
          have gS : g ≤ (wr bs).length := by omega
          have lb2 := lbY.same s3
          refine iteT ⟨_, rfl, _, rfl, _, _, rfl, rfl, _, _, rfl, rfl, _, rfl, by omega, by omega, fun DD nDD => ?_⟩
          have ec : ((g : Int) - ((m : Int) + 1) + 1).toNat = g - m := by omega
          refine lc_range (fun i G => G DD = some (.lst ((((wr bs).drop m).take i).map V.str)) ∧ Same X2 G) ⟨upd_same, same_upd nDD⟩ (fun i G hi pg => ?_) (fun G pg => ?_)
          · obtain ⟨pD, pS⟩ := pg
            rw [ec] at hi
            refine ⟨rfl, ?_⟩
            dsimp only [tYes]
            rw [if_pos rfl]
            have hi2 : m + i < (wr bs).length := by omega
            have hz : (wr bs)[m + i]? = some (wr bs)[m + i] := List.getElem?_eq_getElem hi2
            generalize (wr bs)[m + i] = z at hz
            refine ⟨_, rfl, _, rfl, _, rfl, _, _, rfl, rfl, p, bs, _, m + i, rfl, by omega, lb2.same pS, vb, fun G1 s5 => ?_⟩
            rw [hz, show optS (some z) = V.str z from rfl]
            refine ⟨_, s5 _ _ pD, ?_, ?_, fun b u eb => ?_⟩
            · rw [List.length_map, List.length_take]
              exact Nat.lt_of_le_of_lt (Nat.min_le_left _ _) (Nat.lt_of_le_of_lt (show i ≤ 1000 by omega) (by decide))
            · rw [List.take_succ, List.getElem?_drop, hz, List.map_append]
              exact upd_same
            · rw [upd_ne (ne_of_none eb nDD)]
              exact s5 _ _ (pS _ _ eb)
          obtain ⟨pD, pS⟩ := pg
          rw [ec] at pD
          have er : ((wr bs).drop m).take (g - m) = ((wr bs).take g).drop m := by rw [List.drop_take]
          rw [er] at pD
          have okr : ∀ z ∈ ((wr bs).take g).drop m, OkS z := fun z hz => okw z (List.mem_of_mem_take (List.mem_of_mem_drop hz))
          have lr : (((wr bs).take g).drop m).length ≤ 1000 := by
            rw [List.length_drop, List.length_take]
            omega
          generalize hrs : ((wr bs).take g).drop m = rs at pD okr lr
          refine ⟨(by show 2 ≤ sizeLine; decide), fun D2 nD2 => ?_⟩
          have sD2 := same_upd (o := .tup [.str "told", .ref DD]) nD2
          have s3' := (s3.trans pS).trans sD2
          have hD2 : upd G D2 (.tup [.str "told", .ref DD]) D2 = some (.tup [.str "told", .ref DD]) := upd_same
          have hDD := sD2 _ _ pD
          clear s3
          have s3 := s3'
          generalize upd G D2 (.tup [.str "told", .ref DD]) = X3 at hD2 hDD s3 ⊢
          refine ⟨Tabs.same TY s3, fun X4 e4 T4 => ?_⟩
          have b4 : Bx d _ X4 := (Bx.same s3).trans (Bx.ext e4)
          have lt4 := ltY.bx b4 hdY
          have zh4 := zhY.bx b4
          have zt4 := zt.bx b4
          obtain ⟨a4, dx4, t4, us4, ea4, ha4, ht4, inl4⟩ := lt4.inList
          injection ea4 with ea4
          subst ea4
          refine ⟨_, rfl, a, dx4, _, rfl, ha4, rfl, _, rfl, _, rfl, cs, _, _, _, _, _, _, _, rfl, lt4, rc, zh4, zt4, (fun hk => by rw [ew, hSe, en] at hk; cases hk), (fun k ek hk nk => by (injection ek with ek; rw [← ek, ew, hSe, show (m : Int) + 1 + 999 = (m : Int) + 1 + 999 from rfl, en2] at nk; cases nk)), fun m2 g2 em eg l1 l2 l3 pl X5 hpl npl s5 => ⟨(by show 2 ≤ sizeLine; decide), fun pp np => ?_⟩⟩
          injection em with em
          have e2 : m2 = m := by omega
          subst e2
          injection eg with eg
          have e3 : g2 = g := by omega
          subst e3
          rw [ew, hrs] at hpl
          have sp := same_upd (o := .tup [.str "told", .ref pl]) np
          have s6 := s5.trans sp
          have hD6 := s6 _ _ (e4 _ _ hD2 (fun _ z => by cases z))
          have hDD6 := s6 _ _ (e4 _ _ hDD (fun _ z => by cases z))
          have hpl6 := sp _ _ hpl
          have hp6 : upd X5 pp (.tup [.str "told", .ref pl]) pp = some (.tup [.str "told", .ref pl]) := upd_same
          generalize upd X5 pp (.tup [.str "told", .ref pl]) = X6 at hD6 hDD6 hpl6 hp6 s6 ⊢
          refine ⟨_, .tuple [.str "told", .list (rs.map PyData.str)], rfl, .dp (.tup (.inl (.inl hp6)) (.cons (.str _) (.cons (.lst (SqL.of hpl6) (dp_strs rs)) .nil))), shows_lines okr lr, _, rfl, _, .tuple [.str "told", .list (rs.map PyData.str)], rfl, .dp (.tup (.inl (.inl hD6)) (.cons (.str _) (.cons (.lst (SqL.of hDD6) (dp_strs rs)) .nil))), shows_lines okr lr, rfl, _, rfl, ?_⟩
          rw [decide_eq_true rfl]
          exact iteF ⟨⟨_, _, _, _, rfl⟩, ((pY.keep s3).extN e4).keep s6, bY.trans (b4.trans (Bx.same s6)), Tabs.same T4 s6⟩
      | false =>
        refine ⟨_, rfl, _, rfl, _, rfl, d, c0, n + 33 + i, ns, rfl, p7s, by omega, fun od2 eo2 H8 zo2 fo2 p8 b8 => ⟨(by show 3 ≤ sizeLine; decide), fun L1 nL1 => ⟨_, rfl, _, rfl, iteF ⟨(by show 0 ≤ sizeLine; decide), fun L2 nL2 => ⟨L1, L2, _, _, rfl, rfl, same_upd nL2 _ _ upd_same, upd_same, (by show 3 + 0 ≤ sizeLine; decide), fun L3 nL3 => ?_⟩⟩⟩⟩⟩
        replace zo2 := zo2.imp (M := fun a => a ≠ d) fun _ h => h.1
        have sI := (same_upd (o := .lst [.int S, xh, od2]) nL1).trans ((same_upd (o := .lst []) nL2).trans (same_upd (o := .lst ([.int S, xh, od2] ++ [])) nL3))
        have hI : upd (upd (upd H8 L1 (.lst [.int S, xh, od2])) L2 (.lst [])) L3 (.lst ([.int S, xh, od2] ++ [])) L3 = some (.lst ([.int S, xh, od2] ++ [])) := upd_same
        have zh8 := zh7.bx (Bx.but b8)
        have allI : ∀ x ∈ ([.int S, xh, od2] ++ [] : List V), ∃ e, Dz (fun a => a ≠ d) (upd (upd (upd H8 L1 (.lst [.int S, xh, od2])) L2 (.lst [])) L3 (.lst ([.int S, xh, od2] ++ []))) x e ∧ Fine e := fun x hx => by
          simp only [List.mem_append, List.mem_cons, List.not_mem_nil, or_false] at hx
          rcases hx with (rfl | rfl | rfl)
          · exact ⟨_, .int _, fine_int hS⟩
          · exact ⟨eh, zh8.same sI, fh⟩
          · exact ⟨eo2, zo2.same sI, fo2⟩
        have TI := Tabs.same (Tabs.but (Tabs.same T7 s7) b8 (s7 _ _ hd7)) sI
        have pI := p8.keep sI
        have bI : Bx d X' _ := (Bx.same s7).trans ((Bx.but b8).trans (Bx.same sI))
        have zhI := zh8.same sI
        have nL3d : L3 ≠ d := (((p8.keep (same_upd (o := .lst [.int S, xh, od2]) nL1)).keep (same_upd (o := .lst []) nL2)).fresh nL3).1
        generalize ([.int S, xh, od2] ++ [] : List V) = xs3 at hI allI TI pI bI zhI ⊢
        generalize upd (upd (upd H8 L1 (.lst [.int S, xh, od2])) L2 (.lst [])) L3 (.lst xs3) = HI at hI allI TI pI bI zhI ⊢
        obtain ⟨kvI, hdI⟩ := pI.dict
        have lbI := lb7.bx bI hd7
        have ltI := lt7.bx bI hd7
        refine ⟨L3, rfl, ⟨_, SqL.of hI⟩, for_it (walk_list (K := K) (a := L3) (xs := xs3)) (fun j σ Y => (∃ x4 x5 x8 x9 : Option V, σ = [some (.ref d), some (.ref p), some (.ref a), some (.int S), x4, x5, some xh, some (.bl false), x8, x9]) ∧ PenAt Y d c0 (n + 34 + i) ns ∧ Bx d HI Y ∧ Tabs T Y) ⟨⟨_, _, _, _, rfl⟩, pI.le (by omega), Bx.refl, TI⟩ (fun j σ Y _ pw => SqL.of (pw.2.2.1 _ _ hI nL3d (fun _ z => by cases z))) (fun j xt σ Y Y' hj pw yl => ?_) (fun σ Y pw => ?_)⟩
        rotate_left
        · obtain ⟨⟨y4, y5, y8, y9, rfl⟩, pY, bY, TY⟩ := pw
          exact ⟨⟨_, _, _, _, _, _, rfl⟩, pY.le (by omega), bX.trans (bI.trans bY), TY⟩
        obtain ⟨⟨y4, y5, y8, y9, rfl⟩, pY, bY, TY⟩ := pw
        obtain ⟨rfl, hxt⟩ := yl
        obtain ⟨et, zt0, ft⟩ := allI xt (List.mem_of_getElem? hxt)
        have zt := zt0.bx bY
        have zhY := zhI.bx bY
        have lbY := lbI.bx bY hdI
        have ltY := ltI.bx bY hdI
        obtain ⟨kvY, hdY⟩ := pY.dict
        refine ⟨_, rfl, _, rfl, iteF ⟨_, rfl, _, eh, rfl, zhY.dx fh.ok, fh.sh, (by show 3 ≤ sizeLine; decide), fun D nD => ?_⟩⟩
        have s3 := same_upd (o := .tup [.str "out", .str eh.shown, .bl true]) nD
        have hD : upd Y' D (.tup [.str "out", .str eh.shown, .bl true]) D = some (.tup [.str "out", .str eh.shown, .bl true]) := upd_same
        generalize upd Y' D (.tup [.str "out", .str eh.shown, .bl true]) = X3 at hD s3 ⊢
        refine ⟨_, rfl, _, rfl, iteF (iteF ?_)⟩
        refine ⟨Tabs.same TY s3, fun X4 e4 T4 => ?_⟩
        have b4 : Bx d _ X4 := (Bx.same s3).trans (Bx.ext e4)
        have lt4 := ltY.bx b4 hdY
        have zh4 := zhY.bx b4
        have zt4 := zt.bx b4
        obtain ⟨a4, dx4, t4, us4, ea4, ha4, ht4, inl4⟩ := lt4.inList
        injection ea4 with ea4
        subst ea4
        have no : ∀ (m2 : Nat), eh = .int ((m2 : Int) + 1) → m2 < (wr bs).length → False := fun m2 em l => by
          subst em
          have n1 : numD (.int ((m2 : Int) + 1)) 1 S = true := by
            show (decide ((1 : Int) ≤ (m2 : Int) + 1) && decide ((m2 : Int) + 1 ≤ S)) = true
            rw [decide_eq_true (by omega), decide_eq_true (by omega)]
            rfl
          rw [n1] at en
          cases en
        refine ⟨_, rfl, a, dx4, _, rfl, ha4, rfl, _, rfl, _, rfl, cs, _, _, _, _, _, _, _, rfl, lt4, rc, zh4, zt4, (fun _ dd X5 nd s5 hd5 => ⟨dd, xh, rfl, .inr (.inr (.inr ⟨rfl, hd5, eh, (zh4.same s5).dx fh.ok, fh.sh, fun pp np => ?_⟩))⟩), (fun k ek hk => by rw [ew, hSe, en] at hk; cases hk), fun m2 g2 em eg l1 l2 => (no m2 em (by rw [ew] at l2; omega)).elim⟩
        · have sp := same_upd (o := .tup [.str "out", .str eh.shown, .bl true]) np
          have s6 := s5.trans sp
          have hD6 := s6 _ _ (e4 _ _ hD (fun _ z => by cases z))
          have hp6 : upd X5 pp (.tup [.str "out", .str eh.shown, .bl true]) pp = some (.tup [.str "out", .str eh.shown, .bl true]) := upd_same
          generalize upd X5 pp (.tup [.str "out", .str eh.shown, .bl true]) = X6 at hD6 hp6 s6 ⊢
          refine ⟨_, .tuple [.str "out", .str eh.shown, .bool true], rfl, .dp (.tup (.inl (.inl hp6)) (.cons (.str _) (.cons (.str _) (.cons (.bl _) .nil)))), fh.out, _, rfl, _, .tuple [.str "out", .str eh.shown, .bool true], rfl, .dp (.tup (.inl (.inl hD6)) (.cons (.str _) (.cons (.str _) (.cons (.bl _) .nil)))), fh.out, rfl, _, rfl, ?_⟩
          rw [decide_eq_true rfl]
          exact iteF ⟨⟨_, _, _, _, rfl⟩, ((pY.keep s3).extN e4).keep s6, bY.trans (b4.trans (Bx.same s6)), Tabs.same T4 s6⟩
end
end LA
end
section
set_option Elab.async false
set_option linter.all false
set_option maxRecDepth 100000
set_option maxHeartbeats 8100000
namespace LA
open PySem PySem.Spec PyProof.Rows L2 XS XT LM XK XL LamX XO XV ClX
abbrev sApart : Stmt := top 56
theorem LT.put {C : Addr} {H : Hp} {L : Addr} {xs : List V} {o : HO} (hl : H L = some (.lst xs)) {bs : List (Bk Str)} {v : V} (h : LT C H bs v) : LT C (upd H L o) bs v := by
  obtain ⟨a, dx, t, us, e, h1, h2, h3⟩ := h
  have n : ∀ {b : Addr} {u : HO}, H b = some u → (∀ ys, u ≠ .lst ys) → upd H L o b = some u := fun {b u} e k => by
    rw [upd_ne fun z => by rw [z, hl] at e; injection e with e; exact k _ e.symm]
    exact e
  refine ⟨a, dx, t, us, e, n h1 (fun _ z => by cases z), n h2 (fun _ z => by cases z), L2.Paired.mapP h3 fun _ _ z => ?_⟩
  obtain ⟨t, a, e, g1, g2⟩ := z
  exact ⟨t, a, e, n g1 (fun _ z => by cases z), n g2 (fun _ z => by cases z)⟩
/-- what stays while lists are written -/
structure Ap (C : Addr) (H0 : Hp) (d c : Addr) (m : Int) (ns : List Int) (kp : Addr) (rs : List Str) (k : Nat) (vm vo : V) (H : Hp) : Prop where
  lm : LT C H [(rs, k)] vm
  lo : LT C H (ofB rs) vo
  kl : H kp = some (.lst (rs.map V.str))
  pn : PenAt H d c m ns
  bt : But d H0 H
  hc : ∃ o, H0 c = some o
theorem Ap.same {C : Addr} {H0 : Hp} {d c : Addr} {m : Int} {ns : List Int} {kp : Addr} {rs : List Str} {k : Nat} {vm vo : V} {H H' : Hp} (h : Ap C H0 d c m ns kp rs k vm vo H) (s : Same H H') : Ap C H0 d c m ns kp rs k vm vo H' :=
  ⟨h.lm.same s, h.lo.same s, s _ _ h.kl, h.pn.keep s, h.bt.trans (But.same s), h.hc⟩
theorem Ap.put {C : Addr} {H0 : Hp} {d c : Addr} {m : Int} {ns : List Int} {kp : Addr} {rs : List Str} {k : Nat} {vm vo : V} {H : Hp} (h : Ap C H0 d c m ns kp rs k vm vo H) {q : Addr} {xs : List V} {o : HO} (hq : H q = some (.lst xs)) (nk : q ≠ kp) (n0 : H0 q = none) : Ap C H0 d c m ns kp rs k vm vo (upd H q o) := by
  obtain ⟨oc, hc⟩ := h.hc
  have nd : q ≠ d := fun z => by
    obtain ⟨kv, e⟩ := h.pn.dict
    rw [z, e] at hq
    cases hq
  refine ⟨h.lm.put hq, h.lo.put hq, ?_, h.pn.put nd (fun z => by rw [z, hc] at n0; cases n0), h.bt.put n0, h.hc⟩
  rw [upd_ne nk.symm]
  exact h.kl
theorem lay_strs : ∀ {rs : List Str}, (∀ z ∈ rs, OkS z) → PyData.canLayAll0 (rs.map PyData.str) = true
  | [], _ => rfl
  | z :: rs, h => by
    have h1 : PyData.strOk z = true := by
      show (z.cps.all (· < 0x110000)) = true
      rw [Array.all_eq_true]
      intro i hi
      exact decide_eq_true ((h z (List.mem_cons_self ..)).ch _ (Array.mem_toList_iff.mpr (Array.getElem_mem hi)))
    rw [List.map_cons]
    unfold PyData.canLayAll0
    rw [lay_strs fun y hy => h y (List.mem_cons_of_mem _ hy)]
    show (PyData.canLay0 (.str z) && true) = true
    unfold PyData.canLay0
    rw [h1]
    rfl
theorem lay_list {rs : List Str} (h : ∀ z ∈ rs, OkS z) : PyData.canLay0 (.list (rs.map PyData.str)) = true := by
  unfold PyData.canLay0
  exact lay_strs h
theorem lay_two {r1 r2 : List Str} (h1 : ∀ z ∈ r1, OkS z) (h2 : ∀ z ∈ r2, OkS z) : PyData.canLay0 (.list [.list (r1.map PyData.str), .list (r2.map PyData.str)]) = true := by
  unfold PyData.canLay0
  show (PyData.canLay0 (.list (r1.map PyData.str)) && (PyData.canLay0 (.list (r2.map PyData.str)) && true)) = true
  rw [lay_list h1, lay_list h2]
  rfl
theorem shaped_two {r1 r2 : List Str} (h1 : ∀ z ∈ r1, OkS z) (h2 : ∀ z ∈ r2, OkS z) : SeqAt.shaped (.list [.list (r1.map PyData.str), .list (r2.map PyData.str)]) = true := by
  unfold SeqAt.shaped
  have d : PyData.depth (.list [.list (r1.map PyData.str), .list (r2.map PyData.str)]) ≤ 64 := by
    show max (PyData.depthAll (r1.map PyData.str) + 1) (max (PyData.depthAll (r2.map PyData.str) + 1) 0) + 1 ≤ 64
    rw [depth_strs, depth_strs]
    decide
  rw [lay_two h1 h2, decide_eq_true d]
  rfl
theorem shaped_lines {rs : List Str} (h : ∀ z ∈ rs, OkS z) : SeqAt.shaped (.list (rs.map PyData.str)) = true := by
  unfold SeqAt.shaped
  have d : PyData.depth (.list (rs.map PyData.str)) ≤ 64 := by
    show PyData.depthAll (rs.map PyData.str) + 1 ≤ 64
    rw [depth_strs]
    decide
  rw [lay_list h, decide_eq_true d]
  rfl
theorem ix0 {n : Nat} (h : 0 < n) : ixN n 0 = some 0 := by
  unfold ixN
  rw [if_pos (Int.le_refl 0), if_pos (by omega)]
  rfl
theorem part_all {H' : Hp} {p : Addr} {W : List Str} {n2 g2 : Nat} (en : PyData.int 1 = .int ((n2 : Int) + 1)) (eg : PyData.int (W.length : Int) = .int (g2 : Int)) (hp : H' p = some (.lst (((W.take g2).drop n2).map V.str))) : H' p = some (.lst (W.map V.str)) := by
  injection en with en
  injection eg with eg
  have e1 : n2 = 0 := by omega
  have e2 : g2 = W.length := by omega
  subst e1
  rw [e2, List.take_length, List.drop_zero] at hp
  exact hp
theorem map_dstr_inj : ∀ {xs ys : List Str}, xs.map PyData.str = ys.map PyData.str → xs = ys
  | [], [], _ => rfl
  | [], _ :: _, h => by cases h
  | _ :: _, [], h => by cases h
  | x :: xs, y :: ys, h => by
    injection h with h1 h2
    injection h1 with h1
    rw [h1, map_dstr_inj h2]
theorem wr_single (rs : List Str) (k : Nat) : wr [(rs, k)] = (List.replicate k rs).flatten := by
  rw [wr_cons, wr_nil, List.append_nil]
  rfl
theorem rep_map (rs : List Str) (k : Nat) : (List.replicate k (rs.map V.str)).flatten = (wr [(rs, k)]).map V.str := by
  rw [wr_single, List.map_flatten, List.map_replicate]
section
variable {P : Program} {w : World} {K : PySem.W.Frag} {mg : Str → Option Value} {base : Heap} {C DB DT DM DR : Addr}
def spApart : Sp := fun vs H Q _ => ∃ (d c : Addr) (n : Int) (ns : List Int) (z : Str), vs = [.ref d, .str z] ∧ PenAt H d c n ns ∧ n + 100 < 1000000 ∧ Sgn z ∧ ∀ H', PenAt H' d c (n + 30) ns → But d H H' → Q (.bl true) H'
abbrev nApart : List Str := ["_law_pen_here", "_law_signs_here", "_law_lines", "_law_given", "_law_kept", "_law_span", "_law_made", "_law_other", "_law_told_here", "_law_part", "_law_k"]
theorem scAp : FnScope nApart ["_law_pen_here", "_law_signs_here"] (defScope sApart) := ⟨rfl, rfl, rfl, by decide +kernel, rfl, by decide +kernel, by decide +kernel⟩
theorem ok_apart {f fI fA fN pN fB pB fL fP fO pO f1 f3 : Addr} {mc : Value} {fd fdA fdN fdB fdL fdP fdO fd1 fd3 : FuncData} (F : Fun K "_law_is_apart" "_law_is_apart" sApart f fd) (G : LgF P w K mg base C DB DT DM DR fI fA fN pN fB pB fL fP fO pO mc fdA fdN fdB fdL fdP fdO) (mR : mg "range" = none) (mLi : mg "list" = none) (mL : mg "len" = none)
    (DR1 : DrawAt P w K mg base f1 fd1) (RO : CallOf P w K mg base 3 "_law_row" ["_law_pen_here", "_law_signs_here", "_law_least", "_law_most_letters"] spRow f3 fd3) : FnOk P w K mg base CX0 9 f fd ["_law_pen_here", "_law_signs_here"] spApart := by
  refine F.ok scAp (fun vs H Q E h => ?_) (fun cdv A outer s H vs Q E hr h => ?_)
  · obtain ⟨d, c, n, ns, z, rfl, _⟩ := h
    rfl
  · obtain ⟨d, c, n, ns, z, rfl, pen, hn, sz, q⟩ := h
    have hu6 := hr.units
    have hr7 : Room 7 _ := hr.mono (by decide)
    have hr6 : Room 6 _ := hr.mono (by decide)
    have hr4 : Room 4 _ := hr.mono (by decide)
    have hr3 : Room 3 _ := hr.mono (by decide)
    have hr2 : Room 2 _ := hr.mono (by decide)
    have hr1 : Room 1 _ := hr.mono (by decide)
    refine ⟨_, pss_cons (by exact (ps_setLc (i := 2) (own := [("_law_k", 10)]) (g := gName 10) (tt := tYes) (te := tCall spRow [] (fun _ _ _ => False) (tCons (tVar 0) (tCons (tVar 1) (tCons (tC (.int 0)) (tCons (tC (.int 2)) tNil))))) rfl scAp.nd rfl rfl (sw_true rfl rfl rfl (by decide +kernel)) (pi_range1 rfl mR (pa_cons (pe_op op_add pe_int (pe_call DR1.ok hr1 rfl DR1.m DR1.k DR1.b .nil pass0 (pa_cons (pv 0) (pa_cons pe_int pa_nil)))) pa_nil))
          (blkOk_by (N := nApart) (sc := defScope sApart) (by decide +kernel)) (fun _ _ _ _ _ => by exact (pg_name (i := 10) scAp.nd rfl (Or.inl rfl))) (fun _ _ _ _ _ => by exact pts_nil)
          (fun _ _ _ _ _ => by exact (pe_call RO.ok hr3 rfl RO.m RO.k RO.b .nil pass0 (pa_cons (pv 0) (pa_cons (pv 1) (pa_cons pe_int (pa_cons pe_int pa_nil))))))))
      (pss_cons (by exact (ps_par3 (i := 3) (j := 4) (l := 5) (by rfl) scAp.nd rfl rfl rfl (by decide) (by decide) (by decide) rfl rfl rfl (pa_cons (pe_callTy call_list_of (by rfl) mLi (by decide +kernel) (pa_cons (pv 2) pa_nil)) (pa_cons (pe_callTy call_list_of (by rfl) mLi (by decide +kernel) (pa_cons (pv 2) pa_nil)) (pa_cons (pe_op op_add pe_int (pe_call DR1.ok hr1 rfl DR1.m DR1.k DR1.b .nil pass0 (pa_cons (pv 0) (pa_cons pe_int pa_nil)))) pa_nil))) (by rfl)))
      (pss_cons (by exact (ps_par (i := 6) (j := 7) (by rfl) scAp.nd rfl rfl (by decide) rfl rfl (pa_cons (pe_makeV G.g.mak G.g.ip hr6 rfl G.g.nm passN (pa_cons (pe_tup (pa_cons (pv 2) (pa_cons (pv 5) pa_nil))) pa_nil)) (pa_cons (pe_cmethKw (pe_glob (v := .ref C) rfl G.g.nm rfl) G.oR G.oM G.o hr7 G.oK passN (pk_cons (pv 3) pk_nil)) pa_nil)) (by rfl)))
      (pss_cons (by exact (ps_expr (pe_bm PySem.F.plainAttrs_list PySem.F.slot_list_append PySem.F.type_list_append mt_append (pv 2) (pa_cons pe_str pa_nil))))
      (pss_cons (by exact (ps_asg pe_str (pg_sub (pv 2) pe_int set_list)))
      (pss_cons (by exact (ps_asg pe_str (pg_sub (pv 3) pe_int set_list)))
      (pss_cons (by exact (ps_expr (pe_bm PySem.F.plainAttrs_list PySem.F.slot_list_append PySem.F.type_list_append mt_append (pv 3) (pa_cons pe_str pa_nil))))
      (pss_cons (by exact (ps_set (i := 8) scAp.nd rfl (.inl rfl) (pe_lst (pa_cons (pe_methKw (pv 6) G.g.k.cls G.ptM G.pt hr4 G.ptK passN (pk_cons pe_int (pk_cons (pe_prop (pv 6) G.g.k.cls G.lnP G.ln hr3 G.lnB .nil pass0 rfl) pk_nil))) (pa_cons (pe_methKw (pv 7) G.g.k.cls G.ptM G.pt hr4 G.ptK2 passN (pk_cons (pe_prop (pv 7) G.g.k.cls G.lnP G.ln hr3 G.lnB .nil pass0 rfl) (pk_cons pe_int pk_nil))) pa_nil)))))
      (pss_cons (by exact (ps_for PassesOwn.never rfl (pi_list (pv 8)) (by exact (pg_name (i := 9) scAp.nd rfl (Or.inl rfl))) (pss_cons (by exact (ps_asg pe_str (pg_sub (pv 9) pe_int set_list)))
      (pss_one (by exact (ps_expr (pe_bm PySem.F.plainAttrs_list PySem.F.slot_list_append PySem.F.type_list_append mt_append (pv 9) (pa_cons pe_str pa_nil))))))))
      (pss_cons (by exact (ps_if (pt_cmpR (op_neD hu6) (pe_lst (pa_cons (pe_meth (pv 6) G.g.k.cls G.ptM G.pt hr4 G.ptB .nil passN (pa_cons pe_int (pa_cons (pe_prop (pv 6) G.g.k.cls G.lnP G.ln hr3 G.lnB .nil pass0 rfl) pa_nil))) (pa_cons (pe_meth (pv 7) G.g.k.cls G.ptM G.pt hr4 G.ptB .nil passN (pa_cons pe_int (pa_cons (pe_prop (pv 7) G.g.k.cls G.lnP G.ln hr3 G.lnB .nil pass0 rfl) pa_nil))) pa_nil))) (pe_lst (pa_cons (pe_op op_rep (pv 4) (pv 5)) (pa_cons (pv 4) pa_nil))) (nomark _)) (pss_one (by exact (ps_ret pe_bl))) pss_nil))
      (pss_one (by exact (ps_ret (pe_cmpR (op_eqD hu6) (pe_lst (pa_cons (pe_methKw (pv 6) G.g.k.cls G.laM G.la hr4 G.laK passN (pk_cons pe_int pk_nil)) (pa_cons (pe_methKw (pv 7) G.g.k.cls G.laM G.la hr4 G.laK passN (pk_cons (pe_callB call_len_seq (by rfl) mL PySem.boot_len (pa_cons (pv 4) pa_nil)) pk_nil)) pa_nil))) (pe_lst (pa_cons (pe_ix ix_list (pv 4) pe_int (fun _ _ => rfl)) (pa_cons (pe_ix ix_list (pv 4) (pe_un un_neg pe_int) (fun _ _ => rfl)) pa_nil))) (nomark _)))))))))))))), ?_⟩
    have n0 := pen.n0
    have z2 := sz.two
    have z3 := sz.three
    have hcH : ∃ o, H c = some o := by
      obtain ⟨_, _, _, qq⟩ := pen
      exact ⟨_, qq.cs⟩
    refine ⟨_, rfl, d, c, n, ns, 3, rfl, pen, by omega, by decide, by decide, fun r H1 r0 r1 p1 b1 => ⟨_, _, rfl, rfl, 1 + r, rfl, by omega, by omega, fun L nL => ?_⟩⟩
    obtain ⟨nLd, nLc⟩ := p1.fresh nL
    have nL0 : H L = none := b1.none nLd nL
    refine lc_range (fun i G => ∃ ys : List Str, G L = some (.lst (ys.map V.str)) ∧ ys.length = i ∧ (∀ y ∈ ys, Sm z y) ∧ PenAt G d c (n + 1 + 3 * i) ns ∧ But d H G) ⟨[], upd_same, rfl, fun _ h => absurd h List.not_mem_nil, (by rw [show n + 1 + 3 * ((0 : Nat) : Int) = n + 1 by omega]; exact p1.put nLd nLc), b1.put nL0⟩ (fun i G hi p => ?_) (fun H2 p => ?_)
    · obtain ⟨ys, pD, yl, sm, pP, pB⟩ := p
      refine ⟨rfl, ?_⟩
      dsimp only [tYes]
      rw [if_pos rfl]
      have i4 : i < 3 := by omega
      refine ⟨_, rfl, _, rfl, d, c, n + 1 + 3 * i, ns, z, 0, 2, rfl, pP, by omega, by omega, by omega, by decide, by decide, fun y G1 my l0 l2 p2 b2 => ?_⟩
      refine ⟨_, b2 _ _ pD nLd, Nat.lt_of_le_of_lt (by rw [List.length_map]; omega : _ ≤ 4) (by decide), ys ++ [y], ?_, by rw [List.length_append, yl]; rfl, ?_, ?_, (pB.trans b2).put nL0⟩
      · rw [List.map_append]
        exact upd_same
      · intro x hx
        rcases List.mem_append.mp hx with h | h
        · exact sm x h
        · rw [List.mem_singleton] at h
          subst h
          exact ⟨my, by omega⟩
      · refine (p2.put nLd nLc).le ?_
        omega
    obtain ⟨rs, hL, yl, sm, pP, pB⟩ := p
    have l3 : rs.length ≤ 3 := by omega
    have l1 : 1 ≤ rs.length := by omega
    have oks_ : ∀ y ∈ rs, OkS y := fun y hy => ⟨by have := (sm y hy).le; omega, lineB_chars ((sm y hy).line sz)⟩
    have okl : ∀ y ∈ rs, lineB y = true ∧ y.length ≤ 30 := fun y hy => ⟨(sm y hy).line sz, by have := (sm y hy).le; omega⟩
    have p2 := pP.le (show n + 1 + 3 * (((1 + r).toNat : Nat) : Int) ≤ n + 10 by omega)
    refine ⟨_, rfl, L, _, rfl, .inl (SqL.of hL), fun g ng => ?_⟩
    have sg1 := same_upd (o := .lst (rs.map V.str)) ng
    have ng0 : H g = none := pB.none (p2.fresh ng).1 ng
    refine ⟨_, rfl, L, _, rfl, .inl (SqL.of (sg1 _ _ hL)), fun kp nk => ?_⟩
    have sk1 := same_upd (o := .lst (rs.map V.str)) nk
    have p3 := (p2.keep sg1).keep sk1
    have nk0 : H kp = none := (pB.trans (But.same sg1)).none ((p2.keep sg1).fresh nk).1 nk
    have hL3 := sk1 _ _ (sg1 _ _ hL)
    have hg3 := sk1 _ _ (upd_same (H := H2) (a := g) (o := .lst (rs.map V.str)))
    have hk3 : upd (upd H2 g (.lst (rs.map V.str))) kp (.lst (rs.map V.str)) kp = some (.lst (rs.map V.str)) := upd_same
    have ngL : g ≠ L := (ne_of_none hL ng).symm
    have nkL : kp ≠ L := (ne_of_none (sg1 _ _ hL) nk).symm
    have nkg : kp ≠ g := (ne_of_none (upd_same (H := H2) (a := g) (o := .lst (rs.map V.str))) nk).symm
    have b3 := pB.trans (But.same (sg1.trans sk1))
    generalize upd (upd H2 g (.lst (rs.map V.str))) kp (.lst (rs.map V.str)) = H3 at p3 hL3 hg3 hk3 b3 ⊢
    refine ⟨_, rfl, d, c, n + 10, ns, 5, rfl, p3, by omega, by decide, by decide, fun r3 H4 t0 t1 p4 b4 => ⟨_, _, rfl, rfl, ?_⟩⟩
    have hL4 := b4 _ _ hL3 nLd
    have ngd : g ≠ d := fun z => by
      obtain ⟨kv, e⟩ := p3.dict
      rw [z, e] at hg3
      cases hg3
    have nkd : kp ≠ d := fun z => by
      obtain ⟨kv, e⟩ := p3.dict
      rw [z, e] at hk3
      cases hk3
    have hg4 := b4 _ _ hg3 ngd
    have hk4 := b4 _ _ hk3 nkd
    have b4 := b3.trans b4
    refine ⟨_, _, _, rfl, ?_⟩
    obtain ⟨k, ek⟩ : ∃ k : Nat, 1 + r3 = (k : Int) := ⟨(1 + r3).toNat, by omega⟩
    have k1 : 1 ≤ k := by omega
    have k5 : k ≤ 5 := by omega
    refine ⟨_, rfl, _, rfl, (by show 2 ≤ sizeLine; decide), fun t nt => ⟨rfl, fun x dx nx nd ne => ?_⟩⟩
    have st := same_upd (o := .tup [.ref L, .int (1 + r3)]) nt
    have vb : Vb ((rs, k) : Bk Str) := ⟨l1, by show rs.length ≤ 100; omega, k1, by show k ≤ 10 ^ 30; exact Nat.le_trans k5 (by decide), okl⟩
    have vb1 : Vb ((rs, 1) : Bk Str) := ⟨l1, by show rs.length ≤ 100; omega, Nat.le_refl 1, by show 1 ≤ 10 ^ 30; decide, okl⟩
    have four : ((rs, k) : Bk Str).1.length ≤ 4 := by show rs.length ≤ 4; omega
    have bk : BkE (fun _ => True) (upd H4 t (.tup [.ref L, .int (1 + r3)])) ((rs, k) : Bk Str) (.ref t) := ⟨t, L, _, rfl, trivial, trivial, by (show _ = some (HO.tup [.ref L, .int (k : Int)])); rw [← ek]; exact upd_same, st _ _ hL4, .inl rfl⟩
    obtain ⟨o1, dz1⟩ := bk.dz vb
    have bad1 : badD [bkD ((rs, k) : Bk Str) o1] = none := bad_none_of fun e he => by rw [List.mem_singleton.mp he]; exact blkD_bk vb four o1
    refine init_made (us := [.ref t]) (.cons dz1 .nil) (by show 1 ≤ 1000; decide) nx nd ne (fun kk hk => by rw [bad1] at hk; cases hk) (fun _ h => absurd h (by show ¬ (10 < 1); decide)) fun _ _ bs pr _ H5 lt s5 => ⟨rfl, ?_⟩
    obtain rfl : bs = [((rs, k) : Bk Str)] := pair_det (fun _ _ e => e) pr (.cons bk .nil)
    have tx : txtD (.list (rs.map PyData.str)) = true := lines_all fun y hy => (okl y hy).1
    refine ⟨rfl, _, rfl, (fun _ => True), .ref g, .list (rs.map PyData.str), rfl, .lst trivial (s5 _ _ (st _ _ hg4)) (by rw [List.length_map]; omega) (dz_strs oks_), (fun nn => by rw [tx] at nn; cases nn), fun rs2 ers _ vo H6 lo s6 => ⟨_, _, rfl, ?_⟩⟩
    obtain rfl : rs = rs2 := map_dstr_inj (Option.some.inj ers)
    have s46 := (st.trans s5).trans s6
    have ap6 : Ap C H d c (n + 11) ns kp rs k (.ref x) vo H6 := ⟨lt.same s6, lo, s46 _ _ hk4, by rw [show n + 11 = n + 10 + 1 by omega]; exact p4.keep s46, b4.trans (But.same s46), hcH⟩
    have hL6 := s46 _ _ hL4
    have hg6 := s46 _ _ hg4
    clear ers s46 s6 s5 st
    refine ⟨_, rfl, .inl ⟨rfl, _, SqL.of hL6⟩, L, _, _, rfl, rfl, hL6, by rw [List.length_map]; exact Nat.lt_of_le_of_lt l3 (by decide), ?_⟩
    have ap7 := ap6.put (o := .lst (rs.map V.str ++ [.str "q"])) hL6 nkL.symm nL0
    have hg7 : upd H6 L (.lst (rs.map V.str ++ [.str "q"])) g = some (.lst (rs.map V.str)) := by rw [upd_ne ngL]; exact hg6
    have hL7 : upd H6 L (.lst (rs.map V.str ++ [.str "q"])) L = some (.lst (rs.map V.str ++ [.str "q"])) := upd_same
    generalize upd H6 L (.lst (rs.map V.str ++ [.str "q"])) = H7 at ap7 hg7 hL7 ⊢
    refine ⟨_, rfl, L, _, 0, 0, rfl, rfl, hL7, ix0 (by rw [List.length_append]; exact Nat.succ_pos _), ?_⟩
    have ap8 := ap7.put (o := .lst ((rs.map V.str ++ [V.str "q"]).set 0 (V.str "qq"))) hL7 nkL.symm nL0
    have hg8 : upd H7 L (.lst ((rs.map V.str ++ [V.str "q"]).set 0 (V.str "qq"))) g = some (.lst (rs.map V.str)) := by rw [upd_ne ngL]; exact hg7
    generalize upd H7 L (.lst ((rs.map V.str ++ [V.str "q"]).set 0 (V.str "qq"))) = H8 at ap8 hg8 ⊢
    refine ⟨_, rfl, g, _, 0, 0, rfl, rfl, hg8, ix0 (by rw [List.length_map]; omega), ?_⟩
    have ap9 := ap8.put (o := .lst ((rs.map V.str).set 0 (V.str "q"))) hg8 nkg.symm ng0
    have hg9 : upd H8 g (.lst ((rs.map V.str).set 0 (V.str "q"))) g = some (.lst ((rs.map V.str).set 0 (V.str "q"))) := upd_same
    generalize upd H8 g (.lst ((rs.map V.str).set 0 (V.str "q"))) = H9 at ap9 hg9 ⊢
    refine ⟨_, rfl, .inl ⟨rfl, _, SqL.of hg9⟩, g, _, _, rfl, rfl, hg9, by rw [List.length_set, List.length_map]; exact Nat.lt_of_le_of_lt l3 (by decide), ?_⟩
    have apA := ap9.put (o := .lst ((rs.map V.str).set 0 (V.str "q") ++ [.str "qq"])) hg9 nkg.symm ng0
    generalize upd H9 g (.lst ((rs.map V.str).set 0 (V.str "q") ++ [.str "qq"])) = HA at apA ⊢
    clear hg9 ap9 hg8 ap8 hL7 hg7 ap7 hg6 hL6 ap6
    -- the texts
    have lenW : (wr [((rs, k) : Bk Str)]).length = rs.length * k := by
      rw [wr_cons, wr_nil, List.append_nil, len_one]
    have W1 : 1 ≤ rs.length * k := Nat.mul_pos l1 k1
    have W2 : rs.length * k ≤ 3 * 5 := Nat.mul_le_mul l3 k5
    have rb1 : Rb [((rs, k) : Bk Str)] := ⟨fun b hb => by rw [List.mem_singleton.mp hb]; exact vb, by show 1 ≤ 100; decide⟩
    have eo : ofB rs = [((rs, 1) : Bk Str)] := by
      unfold ofB
      rw [if_neg]
      intro h
      rw [List.isEmpty_iff.mp h] at l1
      exact absurd l1 (by decide)
    have rb2 : Rb (ofB rs) := by
      rw [eo]
      exact ⟨fun b hb => by rw [List.mem_singleton.mp hb]; exact vb1, by show 1 ≤ 100; decide⟩
    have wo : wr (ofB rs) = rs := wr_ofB rs
    have okW : ∀ y ∈ wr [((rs, k) : Bk Str)], OkS y := fun y hy => ⟨(wr_ok rb1.ok y hy).2, lineB_chars (wr_ok rb1.ok y hy).1⟩
    have nd1 : ∀ l : Nat, 1 ≤ l → numD (.int 1) 1 (l : Int) = true := fun l h => by
      show (decide ((1 : Int) ≤ 1) && decide ((1 : Int) ≤ (l : Int))) = true
      rw [decide_eq_true (by omega), decide_eq_true (by omega)]
      rfl
    have nd2 : ∀ l : Nat, 1 ≤ l → l ≤ 15 → numD (.int (l : Int)) 1 (min (l : Int) (1 + 999)) = true := fun l h h2 => by
      show (decide ((1 : Int) ≤ (l : Int)) && decide ((l : Int) ≤ min (l : Int) (1 + 999))) = true
      rw [decide_eq_true (by omega), decide_eq_true (by omega)]
      rfl
    have nd3 : ∀ l : Nat, 1 ≤ l → numD (.int (l : Int)) 1 (l : Int) = true := fun l h => by
      show (decide ((1 : Int) ≤ (l : Int)) && decide ((l : Int) ≤ (l : Int))) = true
      rw [decide_eq_true (by omega), decide_eq_true (by omega)]
      rfl
    have len1 : 1 ≤ (wr [((rs, k) : Bk Str)]).length := by omega
    have len15 : (wr [((rs, k) : Bk Str)]).length ≤ 15 := by omega
    have len2 : 1 ≤ (wr (ofB rs)).length := by rw [wo]; exact l1
    have len25 : (wr (ofB rs)).length ≤ 15 := by rw [wo]; omega
    obtain ⟨xa, dxa, ta, ua, exa, hxa, _⟩ := id apA.lm
    injection exa with exa
    subst exa
    obtain ⟨xo, dxo, to, uo, exo, hxo, _⟩ := id apA.lo
    subst exo
    refine ⟨_, rfl, x, dxa, _, rfl, hxa, rfl, _, rfl, x, dxa, _, rfl, hxa, _, _, rfl, apA.lm, rb1, fun HB sB => ⟨[((rs, k) : Bk Str)], _, (fun _ => True), _, .int 1, (fun _ => True), _, .int (((wr [((rs, k) : Bk Str)]).length : Nat) : Int), rfl, apA.lm.same sB, rb1, .int _, .int _, (fun nn => by rw [nd1 _ len1] at nn; cases nn), (fun kk ek2 _ nn => by injection ek2 with ek2; rw [← ek2, nd2 _ len1 len15] at nn; cases nn), fun n2 g2 en eg _ _ _ pa HC hpa npa sC => ?_⟩⟩
    replace hpa := part_all en eg hpa
    clear en eg
    have sBC := sB.trans sC
    have apC := apA.same sBC
    have npa0 : H pa = none := (apA.same sB).bt.none ((apA.same sB).pn.fresh npa).1 npa
    have npk : pa ≠ kp := (ne_of_none (apA.same sB).kl npa).symm
    refine ⟨_, rfl, xo, dxo, _, rfl, sBC _ _ hxo, rfl, _, rfl, xo, dxo, _, rfl, sBC _ _ hxo, _, _, rfl, apC.lo, rb2, fun HD sD => ⟨(ofB rs), _, (fun _ => True), _, .int 1, (fun _ => True), _, .int (((wr (ofB rs)).length : Nat) : Int), rfl, apC.lo.same sD, rb2, .int _, .int _, (fun nn => by rw [nd1 _ len2] at nn; cases nn), (fun kk ek2 _ nn => by injection ek2 with ek2; rw [← ek2, nd2 _ len2 len25] at nn; cases nn), fun n2 g2 en eg _ _ _ pb HE hpb npb sE => ⟨(by show 2 ≤ sizeLine; decide), fun M nM => ?_⟩⟩⟩
    replace hpb := part_all en eg hpb
    clear en eg
    have sDE := sD.trans sE
    have npb0 : H pb = none := (apC.same sD).bt.none ((apC.same sD).pn.fresh npb).1 npb
    have npbk : pb ≠ kp := (ne_of_none (apC.same sD).kl npb).symm
    have npab : pa ≠ pb := ne_of_none (sD _ _ hpa) npb
    have sM := same_upd (o := .lst [.ref pa, .ref pb]) nM
    have apM := (apC.same sDE).same sM
    have hpaM := sM _ _ (sDE _ _ hpa)
    have hpbM := sM _ _ hpb
    have nMa : M ≠ pa := (ne_of_none (sDE _ _ hpa) nM).symm
    have nMb : M ≠ pb := (ne_of_none hpb nM).symm
    have hM : upd HE M (.lst [.ref pa, .ref pb]) M = some (.lst [.ref pa, .ref pb]) := upd_same
    generalize upd HE M (.lst [.ref pa, .ref pb]) = HM at apM hpaM hpbM hM ⊢
    refine ⟨_, rfl, M, rfl, ⟨_, SqL.of hM⟩, for_it (walk_list (K := K) (a := M) (xs := [.ref pa, .ref pb])) (fun i σ X => (∃ x9 x10 : Option V, σ = [some (.ref d), some (.str z), some (.ref L), some (.ref g), some (.ref kp), some (.int (1 + r3)), some (.ref x), some (.ref xo), some (.ref M), x9, x10]) ∧ X M = some (.lst [.ref pa, .ref pb]) ∧ (∃ xs, X pa = some (.lst xs) ∧ 1 ≤ xs.length ∧ xs.length ≤ 15 + i) ∧ (∃ xs, X pb = some (.lst xs) ∧ 1 ≤ xs.length ∧ xs.length ≤ 15 + i) ∧ Ap C H d c (n + 11) ns kp rs k (.ref x) (.ref xo) X) ⟨⟨none, none, rfl⟩, hM, ⟨_, hpaM, by rw [List.length_map]; exact len1, by rw [List.length_map]; exact len15⟩, ⟨_, hpbM, by rw [List.length_map]; exact len2, by rw [List.length_map]; exact len25⟩, apM⟩ (fun i σ X _ pw => SqL.of pw.2.1) (fun i y σ X X' hi pw yl => ?_) (fun σ X pw => ?_)⟩
    · obtain ⟨⟨x9, x10, rfl⟩, hM, ⟨xs, hxs, la, lb⟩, ⟨ys, hys, lc, ld⟩, ap⟩ := pw
      obtain ⟨rfl, hy⟩ := yl
      have i2 : i < 2 := hi
      have ci : i = 0 ∨ i = 1 := by omega
      rcases ci with rfl | rfl
      · injection hy with hy
        subst hy
        refine ⟨_, rfl, pa, xs, 0, 0, rfl, rfl, hxs, ix0 la, _, rfl, .inl ⟨rfl, _, SqL.of upd_same⟩, pa, _, _, rfl, rfl, upd_same, by rw [List.length_set]; exact Nat.lt_of_le_of_lt lb (by decide), ?_⟩
        rw [upd_upd]
        refine ⟨⟨_, _, rfl⟩, by rw [upd_ne nMa]; exact hM, ⟨_, upd_same, by rw [List.length_append]; exact Nat.le_add_left _ _, by rw [List.length_append, List.length_set]; exact Nat.add_le_add lb (Nat.le_refl 1)⟩, ⟨ys, by rw [upd_ne npab.symm]; exact hys, lc, by omega⟩, ap.put hxs npk npa0⟩
      · injection hy with hy
        subst hy
        refine ⟨_, rfl, pb, ys, 0, 0, rfl, rfl, hys, ix0 lc, _, rfl, .inl ⟨rfl, _, SqL.of upd_same⟩, pb, _, _, rfl, rfl, upd_same, by rw [List.length_set]; exact Nat.lt_of_le_of_lt ld (by decide), ?_⟩
        rw [upd_upd]
        refine ⟨⟨_, _, rfl⟩, by rw [upd_ne nMb]; exact hM, ⟨xs, by rw [upd_ne npab]; exact hxs, la, by omega⟩, ⟨_, upd_same, by rw [List.length_append]; exact Nat.le_add_left _ _, by rw [List.length_append, List.length_set]; show ys.length + 1 ≤ 15 + (1 + 1); omega⟩, ap.put hys npbk npb0⟩
    obtain ⟨⟨x9, x10, rfl⟩, _, _, _, ap⟩ := pw
    obtain ⟨xa, dxa, ta, ua, exa, hxa, _⟩ := id ap.lm
    injection exa with exa
    subst exa
    obtain ⟨xb, dxo, to, uo, exo, hxo, _⟩ := id ap.lo
    injection exo with exo
    subst exo
    refine ⟨_, rfl, x, dxa, _, rfl, hxa, rfl, _, rfl, x, dxa, _, rfl, hxa, _, _, rfl, ap.lm, rb1, fun Y1 s1 => ⟨[((rs, k) : Bk Str)], _, (fun _ => True), _, .int 1, (fun _ => True), _, .int (((wr [((rs, k) : Bk Str)]).length : Nat) : Int), rfl, ap.lm.same s1, rb1, .int _, .int _, (fun nn => by rw [nd1 _ len1] at nn; cases nn), (fun kk ek2 _ nn => by injection ek2 with ek2; rw [← ek2, nd2 _ len1 len15] at nn; cases nn), fun n2 g2 en eg _ _ _ ea Y2 hea nea s2 => ?_⟩⟩
    replace hea := part_all en eg hea
    clear en eg
    have s12 := s1.trans s2
    have ap2 := ap.same s12
    refine ⟨_, rfl, xo, dxo, _, rfl, s12 _ _ hxo, rfl, _, rfl, xo, dxo, _, rfl, s12 _ _ hxo, _, _, rfl, ap2.lo, rb2, fun Y3 s3 => ⟨(ofB rs), _, (fun _ => True), _, .int 1, (fun _ => True), _, .int (((wr (ofB rs)).length : Nat) : Int), rfl, ap2.lo.same s3, rb2, .int _, .int _, (fun nn => by rw [nd1 _ len2] at nn; cases nn), (fun kk ek2 _ nn => by injection ek2 with ek2; rw [← ek2, nd2 _ len2 len25] at nn; cases nn), fun n2 g2 en eg _ _ _ eb Y4 heb neb s4 => ⟨(by show 2 ≤ sizeLine; decide), fun A1 nA1 => ?_⟩⟩⟩
    replace heb := part_all en eg heb
    clear en eg
    have s34 := s3.trans s4
    have sA1 := same_upd (o := .lst [.ref ea, .ref eb]) nA1
    have apB := (ap2.same s34).same sA1
    refine ⟨_, rfl, _, rfl, kp, _, _, rfl, rfl, apB.kl, by omega, by omega, ?_, fun B1 nB1 => ⟨_, rfl, (by show 2 ≤ sizeLine; decide), fun D1 nD1 => ?_⟩⟩
    · rw [List.length_map, ek, Int.toNat_natCast]
      exact Nat.le_trans W2 (by decide)
    rw [ek, Int.toNat_natCast, rep_map] at nD1 ⊢
    have sB1 := same_upd (o := .lst ((wr [((rs, k) : Bk Str)]).map V.str)) nB1
    have sD1 := same_upd (o := .lst [.ref B1, .ref kp]) nD1
    rw [wo] at heb
    have sEnd := sA1.trans (sB1.trans sD1)
    refine ⟨.list [.list ((wr [((rs, k) : Bk Str)]).map PyData.str), .list (rs.map PyData.str)], .list [.list ((wr [((rs, k) : Bk Str)]).map PyData.str), .list (rs.map PyData.str)],
      .lst (SqL.of ((sB1.trans sD1) _ _ upd_same)) (.cons (.lst (SqL.of (sEnd _ _ (s34 _ _ hea))) (dp_strs _)) (.cons (.lst (SqL.of (sEnd _ _ heb)) (dp_strs _)) .nil)),
      .lst (SqL.of upd_same) (.cons (.lst (SqL.of (sD1 _ _ upd_same)) (dp_strs _)) (.cons (.lst (SqL.of ((sB1.trans sD1) _ _ apB.kl)) (dp_strs _)) .nil)), shaped_two okW oks_, shaped_two okW oks_, _, rfl, ?_⟩
    rw [SeqAt.eqv_refl _ (lay_two okW oks_)]
    refine iteF ?_
    have apE := (apB.same sB1).same sD1
    generalize upd (upd _ B1 _) D1 _ = YE at apE ⊢
    obtain ⟨xa, dxa, ta, ua, exa, hxa, _⟩ := id apE.lm
    injection exa with exa
    subst exa
    obtain ⟨xb, dxo, to, uo, exo, hxo, _⟩ := id apE.lo
    injection exo with exo
    subst exo
    have w0 : (wr [((rs, k) : Bk Str)])[0]? = rs[0]? := by
      rw [wr_cons, wr_nil, List.append_nil, get_one _ _ (by show 0 < rs.length * k; omega)]
      show rs[0 % rs.length]? = rs[0]?
      rw [Nat.zero_mod]
    obtain ⟨r0, h0⟩ : ∃ r0, rs[0]? = some r0 := ⟨rs[0], List.getElem?_eq_getElem (by omega)⟩
    have nrs : rs ≠ [] := fun h => by rw [h] at l1; exact absurd l1 (by decide)
    obtain ⟨ri, rl, el⟩ : ∃ ri rl, rs = ri ++ [rl] := ⟨_, _, (List.dropLast_concat_getLast nrs).symm⟩
    have hl : rs[rs.length - 1]? = some rl := by
      rw [el, List.length_append]
      show (ri ++ [rl])[ri.length + 1 - 1]? = some rl
      rw [Nat.add_sub_cancel, List.getElem?_append_right (Nat.le_refl _), Nat.sub_self]
      rfl
    have ok2 : ∀ y ∈ [r0, rl], OkS y := fun y hy => by
      simp only [List.mem_cons, List.not_mem_nil, or_false] at hy
      rcases hy with rfl | rfl
      · exact oks_ _ (List.mem_of_getElem? h0)
      · exact oks_ _ (List.mem_of_getElem? hl)
    refine ⟨_, rfl, x, dxa, _, rfl, hxa, rfl, [((rs, k) : Bk Str)], _, (fun _ => True), _, .int 1, rfl, apE.lm, rb1, .int _, (fun nn => by rw [nd1 _ len1] at nn; cases nn), fun n2 z2 en ez Z1 t1 => ?_⟩
    injection en with en
    have e0 : n2 = 0 := by omega
    subst e0
    rw [w0, h0] at ez
    injection ez with ez
    subst ez
    have apF := apE.same t1
    refine ⟨_, rfl, xo, dxo, _, rfl, t1 _ _ hxo, rfl, _, rfl, kp, _, rfl, .inl (SqL.of apF.kl), ofB rs, _, (fun _ => True), _, .int (((rs.map V.str).length : Nat) : Int), rfl, apF.lo, rb2, .int _, (fun nn => by rw [wo, List.length_map, nd3 _ l1] at nn; cases nn), fun n3 z3 en3 ez3 Z2 t2 => ⟨(by show 2 ≤ sizeLine; decide), fun A2 nA2 => ?_⟩⟩
    injection en3 with en3
    rw [List.length_map] at en3
    have e3 : n3 = rs.length - 1 := by omega
    subst e3
    rw [wo, hl] at ez3
    injection ez3 with ez3
    subst ez3
    have sA2 := same_upd (o := .lst [.str r0, .str rl]) nA2
    have apG := (apF.same t2).same sA2
    refine ⟨_, rfl, kp, _, 0, .str r0, rfl, rfl, SqL.of apG.kl, (atI_nat (j := 0) (by rw [List.getElem?_map, h0]; rfl)), _, rfl, _, rfl, kp, _, -1, .str rl, rfl, rfl, SqL.of apG.kl, (by rw [el, List.map_append]; exact atI_last _ _), (by show 2 ≤ sizeLine; decide), fun B2 nB2 => ?_⟩
    have sB2 := same_upd (o := .lst [.str r0, .str rl]) nB2
    refine ⟨.list ([r0, rl].map PyData.str), .list ([r0, rl].map PyData.str), .lst (SqL.of (sB2 _ _ upd_same)) (dp_strs [r0, rl]), .lst (SqL.of upd_same) (dp_strs [r0, rl]), shaped_lines ok2, shaped_lines ok2, ?_⟩
    rw [SeqAt.eqv_refl _ (lay_list ok2)]
    have apH := apG.same sB2
    exact q _ (apH.pn.le (by omega)) apH.bt
end
end LA
end
section
set_option Elab.async false
set_option linter.all false
set_option maxRecDepth 100000
set_option maxHeartbeats 4100000
namespace XK
open PySem PySem.Spec PyProof.Rows L2 LamX
/-! ### a law that makes lambdas and calls repr: its own def, attached where no repr is under way, with tables of code objects -/
theorem caller_runsT {P : Program} {w : World} {K : PySem.W.Frag} {mg mb : Str → Option Value} {k : Nat} {fa a : Addr} {cs : List (Addr × Addr)} {fd : FuncData} {x : Str} {sp : Sp} {s₁ : Shared} {vs : List Value} {ns : List Int}
    (inn : K.In s₁.heap) (glob : s₁.heap.Ns mainGlobals mg) (bns : s₁.heap.Ns builtinsNs mb) (boot : ∀ x : Str, x ≠ "__name__" → mb x = bootBuiltins x) (lim : s₁.heap.NoLimit) (gens : s₁.gens = #[])
    (tabs : ∀ p ∈ cs, s₁.heap.get? p.2 = some { cls := .none, data := .fields #[] }) (notK : ∀ p ∈ cs, K.lookup p.2 = none) (codes : ∀ p ∈ cs, PySem.W.CodeHd s₁.heap p.1 p.2)
    (bmod : ∃ (bm : Addr) (ob : Obj), mg "__builtins__" = some (.ref bm) ∧ bm ≠ builtinsNs ∧ s₁.heap.get? bm = some ob ∧ ob.cls = .type "module" ∧ ob.dict = some builtinsNs ∧ ob.data = .plain)
    (obj : s₁.heap.get? a = some { cls := .type "list", data := .seq vs.toArray }) (inz : IntsAre vs ns) (short : ns.length ≤ sizeLine) (room : Room k callerA)
    (F : ∀ base : Heap, K.In base → base.Ns mainGlobals mg → (∀ p ∈ cs, TabB base mg p.1 p.2) → AtCaller P w K mg base CX0 k fa fd [x] sp) (bind : ∀ (s : Shared) (u : Value), BindsTo s fd ⟨[u], []⟩ [(x, u)])
    (want : ∀ H : Hp, (∀ p ∈ cs, H p.2 = some (.tbl #[])) → SqL K H a (ns.map V.int) → sp [.ref a] H (fun v _ => v = .bl true) fun _ _ _ => False) :
    codeAny (model P w) callerA (.call (.ref fa) ⟨[.ref a], []⟩) (fun r s' => r = .ok (.ret (.bool true)) ∧ OldK s₁.heap s'.heap ∧ s'.os = s₁.os ∧ AllBare s'.gens) s₁ := by
  have vals := vals_ints inz
  have many := inz.length
  have tabAt : ∀ b ∈ cs.map (·.2), s₁.heap.get? b = some { cls := .none, data := .fields #[] } := fun b hb => by
    obtain ⟨p, hp, e⟩ := List.mem_map.mp hb
    rw [← e]
    exact tabs p hp
  have aOut : a ∉ cs.map (·.2) := fun z => by
    have q := (tabAt a z).symm.trans obj
    have q := congrArg Obj.data (Option.some.inj q)
    cases q
  have inT : ∀ p ∈ cs, p.2 ∈ cs.map (·.2) := fun p hp => List.mem_map.mpr ⟨p, hp, rfl⟩
  have main : ∀ H : Hp, (∀ p ∈ cs, H p.2 = some (.tbl #[])) → (∀ b, H b = none ∨ b ∈ cs.map (·.2) ∨ ∃ ob xs, H b = some (.frz ob (.lst xs))) → SqL K H a (ns.map V.int) → HOk P w H s₁.heap → (∀ b, H b ≠ none → b = a ∨ b ∈ cs.map (·.2)) → (H a ≠ none → K.lookup a = none) →
      codeAny (model P w) callerA (.call (.ref fa) ⟨[.ref a], []⟩) (fun r s' => r = .ok (.ret (.bool true)) ∧ OldK s₁.heap s'.heap ∧ s'.os = s₁.os ∧ AllBare s'.gens) s₁ := by
    intro H tH kinds seq ok alone noK
    have plain : ∀ {b : Addr} {o : Obj}, s₁.heap.get? b = some o → (∀ us n, o.data ≠ .seq us n) → o.data ≠ .fields #[] → H b = none := fun {b o} e n1 n2 => by
      cases q : H b with
      | none => rfl
      | some u =>
        cases alone b (by rw [q]; simp) with
        | inl z =>
          rw [z, obj] at e
          cases e
          exact (n1 _ _ rfl).elim
        | inr z =>
          rw [tabAt b z] at e
          cases e
          exact (n2 rfl).elim
    have dct : ∀ {b : Addr} {o : Obj} {es : Array DictEntry} {ep : Nat}, s₁.heap.get? b = some o → o.data = .dict es ep → H b = none := fun {b o es ep} e d => plain e (fun us n z => by rw [d] at z; cases z) fun z => by rw [d] at z; cases z
    have space : ∀ {b : Addr} {m : Str → Option Value}, s₁.heap.Ns b m → (hidT s₁.heap H).Ns b m := fun {b m} ⟨o, es, ep, e, d, r⟩ => ⟨o, es, ep, hidT_get e (dct e d), d, r⟩
    have kept : K.In (hidT s₁.heap H) := fun b o e => hidT_get (inn b o e) (by
      cases q : H b with
      | none => rfl
      | some u =>
        cases alone b (by rw [q]; simp) with
        | inl z =>
          rw [z] at e q
          rw [noK (by rw [q]; simp)] at e
          cases e
        | inr z =>
          obtain ⟨p, hp, ep⟩ := List.mem_map.mp z
          rw [← ep, notK p hp] at e
          cases e)
    have md : Mod K mg (hidT s₁.heap H) := ⟨kept, space glob, ⟨mb, space bns, boot⟩, by
      obtain ⟨mc, h1, h2⟩ := lim
      exact ⟨mc, space h1, h2⟩⟩
    have env : Env0 P w K mg (hidT s₁.heap H) callerA [] s₁ H := ⟨rfl, md, fun b o e => of_hidT e, Nat.le_of_eq (hidT_size _ _), trivial, fun b hb => (by cases hb), ok, AllBare.of_eq gens⟩
    have tb : ∀ p ∈ cs, TabB (hidT s₁.heap H) mg p.1 p.2 := fun p hp => by
      have here := tabs p hp
      refine ⟨?_, ?_, fun z => ?_⟩
      · obtain ⟨o, us, file, tf, flags, tg, inF, text, tt, e1, r1, r2, r3, r4, r5, r6, r7, r8, last⟩ := codes p hp
        refine ⟨o, us, file, tf, flags, tg, inF, text, tt, hidT_get e1 (plain e1 (fun us n z => ?_) fun z => ?_), r1, r2, r3, r4, r5, r6, r7, r8, last⟩
        · rw [r2] at z
          cases z
        · rw [r2] at z
          cases z
          simp at r3
      · obtain ⟨bm, ob, b1, b2, b3, b4, b5, b6⟩ := bmod
        refine ⟨bm, ob, b1, b2, fun q => ?_, fun q => ?_, hidT_get b3 (plain b3 (fun us n z => by rw [b6] at z; cases z) fun z => by rw [b6] at z; cases z), b4, b5, b6⟩
        · obtain ⟨o, es, ep, e, d, _⟩ := glob
          rw [q, e] at b3
          cases b3
          rw [d] at b6
          cases b6
        · rw [q, here] at b3
          cases b3
          cases b6
      · obtain ⟨o, es, ep, e, d, _⟩ := glob
        rw [z, here] at e
        cases e
        cases d
    have res := (F _ kept (space glob) tb).go [] s₁ H ⟨[.ref a], []⟩ [.ref a] [.ref a] _ _ room env (bind s₁ (.ref a)) (.cons rfl .nil) (want H tH seq)
    refine codeAny_mono res fun r s' h => ?_
    cases r with
    | error e => exact False.elim h
    | ok fl =>
      cases fl with
      | next => exact False.elim h
      | brk => exact False.elim h
      | cont => exact False.elim h
      | ret u =>
        obtain ⟨v, H', os, bare, un, ok', rel, q⟩ := h
        obtain rfl : v = .bl true := q
        obtain rfl : u = Value.bool true := rel
        have stays : ∀ b o, b ∉ cs.map (·.2) → s₁.heap.get? b = some o → s'.heap.get? b = some o := fun b o nb e => by
          rcases kinds b with z | z | ⟨ob, xs, z⟩
          · exact un.keep b o e z (fun z => by cases z) (fun z => by cases z)
          · exact absurd z nb
          · obtain ⟨e1, _⟩ := ok b _ z
            obtain ⟨e2, _⟩ := ok' b _ (un.frzs b ob _ z)
            rw [e] at e1
            cases e1
            exact e2
        have grown : ∀ p ∈ cs, ∃ more : Array Value, s'.heap.get? p.2 = some { cls := .none, data := .fields more } := fun p hp => by
          obtain ⟨more, z⟩ := un.tbls p.2 #[] (tH p hp)
          exact ⟨_, ok' p.2 _ z⟩
        refine ⟨rfl, ⟨fun b o e => ?_, fun b o e => ?_⟩, os, bare⟩
        · by_cases hb : b ∈ cs.map (·.2)
          · obtain ⟨p, hp, ep⟩ := List.mem_map.mp hb
            obtain ⟨more, hm⟩ := grown p hp
            subst ep
            rw [tabs p hp] at e
            cases e
            exact .inr (.inl ⟨((codes p hp).tab (tabs p hp)).isCodeTable, rfl, #[], more, rfl, by rw [Array.empty_append]; exact hm⟩)
          · exact .inl (stays b o hb e)
        · by_cases hb : b ∈ cs.map (·.2)
          · obtain ⟨p, hp, ep⟩ := List.mem_map.mp hb
            obtain ⟨more, hm⟩ := grown p hp
            subst ep
            exact ⟨_, hm⟩
          · exact ⟨o, stays b o hb e⟩
  cases hk : K.lookup a with
  | some o =>
    have e := inn a o hk
    rw [obj] at e
    cases e
    refine main (fun b => if b ∈ cs.map (·.2) then some (.tbl #[]) else none) (fun p hp => if_pos (inT p hp)) (fun b => ?_) (.inr ⟨_, vs.toArray, _, hk, rfl, rfl, rfl, by rw [List.size_toArray, many]; exact short, by simpa using vals⟩) (fun b u z => ?_) (fun b z => ?_) fun z => absurd (if_neg aOut) z
    · by_cases hb : b ∈ cs.map (·.2)
      · exact .inr (.inl hb)
      · exact .inl (if_neg hb)
    · by_cases hb : b ∈ cs.map (·.2)
      · cases (if_pos hb).symm.trans z
        exact tabAt b hb
      · cases (if_neg hb).symm.trans z
    · by_cases hb : b ∈ cs.map (·.2)
      · exact .inr hb
      · exact absurd (if_neg hb) z
  | none =>
    refine main (fun b => if b = a then some (.frz { cls := .type "list", data := .seq vs.toArray } (.lst (ns.map V.int))) else if b ∈ cs.map (·.2) then some (.tbl #[]) else none) (fun p hp => (if_neg (fun z : p.2 = a => aOut (by rw [← z]; exact inT p hp))).trans (if_pos (inT p hp))) (fun b => ?_)
      (.inl (.inr ⟨_, if_pos rfl⟩)) (fun b u z => ?_) (fun b z => ?_) fun _ => hk
    · by_cases hb : b = a
      · exact .inr (.inr ⟨_, _, if_pos hb⟩)
      · by_cases h2 : b ∈ cs.map (·.2)
        · exact .inr (.inl h2)
        · exact .inl ((if_neg hb).trans (if_neg h2))
    · by_cases hb : b = a
      · cases (if_pos hb).symm.trans z
        rw [hb]
        exact ⟨obj, by rw [List.length_map]; exact short, vs, _, vals, obj⟩
      · have z1 := (if_neg hb).symm.trans z
        by_cases h2 : b ∈ cs.map (·.2)
        · cases (if_pos h2).symm.trans z1
          exact tabAt b h2
        · cases (if_neg h2).symm.trans z1
    · by_cases hb : b = a
      · exact .inl hb
      · by_cases h2 : b ∈ cs.map (·.2)
        · exact .inr h2
        · exact absurd ((if_neg hb).trans (if_neg h2)) z
/-- what is known of such a law at the head's heap h -/
def CallerAtT (l : PySem.W.OpenLaw) (w : World) (K : PySem.W.Frag) (k n : Nat) (x : Str) (mg : Str → Option Value) (fa : Addr) (h : Heap) : Prop :=
  ∃ (fd : FuncData) (cs : List (Addr × Addr)) (sp : Sp), (∀ p ∈ cs, h.get? p.2 = some { cls := .none, data := .fields #[] }) ∧ (∀ p ∈ cs, K.lookup p.2 = none) ∧ (∀ p ∈ cs, PySem.W.CodeHd h p.1 p.2) ∧ (∀ (s : Shared) (u : Value), BindsTo s fd ⟨[u], []⟩ [(x, u)]) ∧
    (∀ (H : Hp) (a : Addr) (ns : List Int), ns.length ≤ n → (∀ p ∈ cs, H p.2 = some (.tbl #[])) → SqL K H a (ns.map V.int) → sp [.ref a] H (fun v _ => v = .bl true) fun _ _ _ => False) ∧
    ∀ base : Heap, K.In base → base.Ns mainGlobals mg → (∀ p ∈ cs, TabB base mg p.1 p.2) → AtCaller l.prog w K mg base CX0 k fa fd [x] sp
theorem caller_walkT {l : PySem.W.OpenLaw} {n k : Nat} {q : Program} {loose : List Str} {XP : (Str → Option Value) → Heap → Prop} {YP : World → Heap → Prop} {d : DefRec} {K : Params → PySem.W.Frag} {x : Str}
    (most : l.most = some n) (small : n ≤ sizeLine) (plain : d.params.defaults = []) (room : Room k callerA) (Y : ∀ (w : World) (h : Heap), YP w h → (K w.params).In h)
    (F : ∀ (w : World) (mg : Str → Option Value) (fa : Addr) (h : Heap), YP w h → (K w.params).In h → h.Ns mainGlobals mg → mg d.name = some (.ref fa) → CallerAtT l w (K w.params) k n x mg fa h) :
    PySem.W.WalkO q loose XP YP l.row.toRowW d [] (fun f vs => PySem.call f vs) := by
  refine Att.attach_callB most plain fun w s₀ s₁ mg mb fa o pm cd doc a vs ns G y ho hd hcd hmg obj inz many _ gens => ?_
  have inn := Y w _ y
  obtain ⟨fd, cs, sp, tabs, notK, codes, bind, want, run⟩ := F w mg fa _ y inn G.T.g hmg
  exact caller_runsT inn G.T.g G.T.b G.T.builtins G.T.nolimit gens tabs notK codes G.T.bmain obj inz (Nat.le_trans many small) room run bind fun H hH seq => want H a ns many hH seq
/-- a law's own def whose code object is told -/
theorem atCallerC {P : Program} {w : World} {K : PySem.W.Frag} {mg : Str → Option Value} {base : Heap} {CX : CXT} {k : Nat} {f c : Addr} {fd : FuncData} {N ps : List Str} {sp : Sp} {x qual : Str} {st : Stmt}
    (F : ∃ (oc : Value) (od : Option Addr) (kV doc pm : Value) (an : Option Addr) (ct : Value) (osl : Array (Option Value)), fd = PySem.W.fnOf x qual (defArgs st) (defBody st) (defScope st) .none kV doc pm an (.ref c) ct ∧ K.lookup f = some ⟨oc, od, .func fd, osl⟩ ∧ PySem.W.codeIn K (.ref c) qual = true)
    (S : FnScope N ps (defScope st)) (len : ∀ vs H Q E, sp vs H Q E → vs.length = ps.length)
    (body : ∀ (outer : List Env) (s : Shared) (H : Hp) (vs : List V) (Q : VK) (E : XK), Room k (callerA.deeper (envOfC qual (defScope st) s.heap.objs.size f (.ref c))) → sp vs H Q E →
      ∃ t, PSs (cxOf CX P w K mg base N qual (defScope st) f (.ref c) callerA outer s H E).nox (defBody st) t ∧ t { nx := fun _ H' => Q .non H', rt := Q } (start N vs) H) : AtCaller P w K mg base CX (k + 1) f fd ps sp := by
  obtain ⟨oc, od, kV, doc, pm, an, ct, osl, rfl, lk, hcd⟩ := F
  constructor
  intro outer s H args us vs Q E room env bind rel want
  have count := len _ _ _ _ want
  have inn : K.In s.heap := env.mod.kin.keeps fun b o e => (env.bs b o e).1
  have lim : s.heap.NoLimit := env.mod.nolimit.keeps fun b o e => (env.bs b o e).1
  have kinds : ∀ y ∈ ps.zip us, (defScope st).names.lookup y.1 = some .local ∨ ((defScope st).names.lookup y.1 = some .cell ∧ ((cellsFrom (s.heap.objs.size + 1) (defScope st).names []).lookup y.1).isSome = true) := by
    intro y hy
    rcases S.par y.1 (List.of_mem_zip hy).1 with q | q
    · exact .inl q
    · exact .inr ⟨q, PySem.W.cellsFrom_some _ _ _ (.inl q)⟩
  refine codeAny_call_function room.depth (inn _ _ lk) rfl S.co S.gen rfl (PySem.W.codeRec_of inn hcd) (bind _ _ _ _ ?_)
  refine wpAny_newFunctionEnv_cells S.kind kinds fun en hen s1 entered => ?_
  subst hen
  refine ⟨lim.keeps entered.toInCall.keep, codeAny_func ?_⟩
  obtain ⟨t, der, rd⟩ := body outer s H vs Q E (room.deeper _) want
  have I0 : Inv (cxOf CX P w K mg base N qual (defScope st) f (.ref c) callerA outer s H E) [] (start N vs) H s1 := inv_start S room.hd env count rel entered
  refine wpAny_mono (der.nox.run [] s1 (start N vs) H _ I0 rd) (fun flow s' res => ?_) fun _ _ res => res
  cases flow with
  | ret u =>
    obtain ⟨v, σ', H', J, rv, q⟩ := res
    exact ⟨v, H', J.os, J.bare, J.base, J.hok, rv, q⟩
  | next =>
    obtain ⟨σ', H', J, q⟩ := res
    exact ⟨V.non, H', J.os, J.bare, J.base, J.hok, rfl, q⟩
  | brk =>
    obtain ⟨_, _, _, no⟩ := res
    exact no.elim
  | cont =>
    obtain ⟨_, _, _, no⟩ := res
    exact no.elim
end XK
end
section
set_option Elab.async false
set_option linter.all false
set_option maxRecDepth 100000
set_option maxHeartbeats 8100000
namespace LA
open PySem PySem.Spec PyProof.Rows L2 XS XT LM XK XL LamX XO XV ClX
abbrev sLaw : Stmt := top 57
abbrev nLaw : List Str := ["_law_script", "_law_pen_here", "_law_turn", "_law_signs_here", "_law_wrong", "_law_told_here", "_law_rows_here", "_law_blocks", "_law_made", "_law_odd", "_law_some_here", "_law_k", "_law_row_here"]
theorem scLaw : FnScope nLaw ["_law_script"] (defScope sLaw) := ⟨rfl, rfl, rfl, by decide +kernel, rfl, by decide +kernel, by decide +kernel⟩
def spLaw (K : PySem.W.Frag) (T : List (Addr × Str)) : Sp := fun vs H Q _ => ∃ (a : Addr) (ns : List Int), vs = [.ref a] ∧ SqL K H a (ns.map V.int) ∧ ns.length ≤ 63 ∧ Tabs T H ∧ ∀ H', Q (.bl true) H'
theorem tabs_new {P1 P2 P3 : Addr} {q1 q2 q3 : Str} {H : Hp} (h1 : H P1 = some (.tbl #[])) (h2 : H P2 = some (.tbl #[])) (h3 : H P3 = some (.tbl #[])) : Tabs [(P1, q1), (P2, q2), (P3, q3)] H := fun p hp => by
  have e : p = (P1, q1) ∨ p = (P2, q2) ∨ p = (P3, q3) := by simpa using hp
  rcases e with rfl | rfl | rfl
  · exact TabS.nil h1
  · exact TabS.nil h2
  · exact TabS.nil h3
theorem shaped_told {k s : Str} (h : PyData.strOk s = true) (hk : PyData.strOk k = true) : PyData.canLay0 (.tuple [.str k, .str s, .bool true]) = true ∧ SeqAt.shaped (.tuple [.str k, .str s, .bool true]) = true := by
  have l : PyData.canLay0 (.tuple [.str k, .str s, .bool true]) = true := by
    unfold PyData.canLay0
    show (PyData.canLay0 (.str k) && (PyData.canLay0 (.str s) && (PyData.canLay0 (.bool true) && true))) = true
    unfold PyData.canLay0
    rw [h, hk]
    rfl
  refine ⟨l, ?_⟩
  unfold SeqAt.shaped
  have d : PyData.depth (.tuple [.str k, .str s, .bool true]) ≤ 64 := by simp [PyData.depth, PyData.depthAll]
  rw [l, decide_eq_true d]
  rfl
theorem bad_take {ds : List PyData} {j : Nat} {e : PyData} (h : ds[j]? = some e) : badD (ds.take (j + 1)) = (badD (ds.take j)).or (if blkD e = true then none else some j) := by
  have lj : j < ds.length := (List.getElem?_eq_some_iff.mp h).1
  unfold badD
  rw [List.take_succ, h]
  show List.findIdx? _ (ds.take j ++ [e]) = _
  rw [List.findIdx?_append, List.findIdx?_cons, List.length_take, Nat.min_eq_left (Nat.le_of_lt lj)]
  cases blkD e <;> simp
section
variable {P : Program} {w : World} {K : PySem.W.Frag} {mg : Str → Option Value} {base : Heap} {C DB DT DM DR : Addr}
structure CallX (P : Program) (w : World) (K : PySem.W.Frag) (mg : Str → Option Value) (base : Heap) (k : Nat) (x : Str) (ps : List Str) (sp : Sp) (f : Addr) (fd : FuncData) : Prop where
  ok : FnOk P w K mg base (L2.CX P w) k f fd ps sp
  m : mg x = some (.ref f)
  k : PySem.W.keepIn K (.ref f) = true
  b : Binds K fd ps []
structure CallG (P : Program) (w : World) (K : PySem.W.Frag) (mg : Str → Option Value) (base : Heap) (k : Nat) (x : Str) (ps : List Str) (sp : Sp) (f : Addr) (fd : FuncData) : Prop where
  ok : AtG P w K mg base CX0 k f fd ps sp
  m : mg x = some (.ref f)
  k : PySem.W.keepIn K (.ref f) = true
  b : Binds K fd ps []
theorem ok_law {T : List (Addr × Str)} {f c PP g fI fA fN pN fB pB fL fP fO pO aPN aFW aDR aSO aIB aCA aAS aMR aAP aRS aLB aLM aAN aIR : Addr} {mc : Value} {fd fdg fdA fdN fdB fdL fdP fdO dPN dFW dDR dSO dIB dCA dAS dMR dAP dRS dLB dLM dAN dIR : FuncData} (F : FunC K "law" "law" sLaw f fd c) (TB : TabB base mg c PP) (here : (PP, lamQ "law" sLaw) ∈ T) (one : ∀ p ∈ T, p.1 = PP → p.2 = lamQ "law" sLaw)
    (TO : ToldAt K mg DB DT DM DR g fdg) (G : LgF P w K mg base C DB DT DM DR fI fA fN pN fB pB fL fP fO pO mc fdA fdN fdB fdL fdP fdO)
    (mR : mg "range" = none) (mM : mg "min" = none) (mL : mg "len" = none) (mRe : mg "repr" = none) (isM : mg "isinstance" = none) (mLi : mg "list" = none) (mT : mg "tuple" = none)
    (PN : CallOf P w K mg base 1 "_law_pen" ["_law_script"] (spPen K) aPN dPN) (FW : CallOf P w K mg base 3 "_law_few" ["_law_pen_here"] spFew aFW dFW) (DW : DrawAt P w K mg base aDR dDR) (SO : CallOf P w K mg base 4 "_law_some" ["_law_pen_here", "_law_signs_here"] spSome aSO dSO) (IB : CallOf P w K mg base 3 "_law_is_block" ["_law_thing"] (spQ blkD) aIB dIB)
    (CA : CallX P w K mg base 7 "_law_called" ["_law_some_here"] (spCalled C DB) aCA dCA) (AS : CallG P w K mg base 12 "_law_asked_right" ["_law_pen_here", "_law_blocks", "_law_made"] (spAsked C T) aAS dAS) (MR : CallG P w K mg base 12 "_law_many_right" ["_law_odd"] (spMany T) aMR dMR) (AP : CallOf P w K mg base 9 "_law_is_apart" ["_law_pen_here", "_law_signs_here"] spApart aAP dAP)
    (RS : CallOf P w K mg base 4 "_law_rows" ["_law_pen_here", "_law_signs_here", "_law_most_rows", "_law_most_letters"] spRows aRS dRS) (LB : CallOf P w K mg base 4 "_law_lblocks" ["_law_pen_here", "_law_signs_here", "_law_most_blocks", "_law_tops"] spLB aLB dLB) (LMd : CallOf P w K mg base 8 "_law_lmade" ["_law_blocks"] (spLM C) aLM dLM)
    (AN : CallOf P w K mg base 3 "_law_any_value" ["_law_pen_here"] spAny aAN dAN) (IR : CallOf P w K mg base 2 "_law_is_row" ["_law_thing"] (spQ lineD) aIR dIR) : AtCaller P w K mg base CX0 20 f fd ["_law_script"] (spLaw K T) := by
  refine atCallerC F.ex scLaw (fun vs H Q E h => ?_) (fun outer s H vs Q E hr h => ?_)
  · obtain ⟨a, ns, rfl, _⟩ := h
    rfl
  · obtain ⟨a, ns, rfl, hS, hl, hT, kk⟩ := h
    have hu6 := hr.units
    have hr12 : Room 12 _ := hr.mono (by decide)
    have hr9 : Room 9 _ := hr.mono (by decide)
    have hr8 : Room 8 _ := hr.mono (by decide)
    have hr7 : Room 7 _ := hr.mono (by decide)
    have hr4 : Room 4 _ := hr.mono (by decide)
    have hr3 : Room 3 _ := hr.mono (by decide)
    have hr2 : Room 2 _ := hr.mono (by decide)
    have hr1 : Room 1 _ := hr.mono (by decide)
    have quiet : (callerA.deeper (PyProof.Rows.envOfC "law" (defScope sLaw) s.heap.objs.size f (.ref c))).guards = some [] := rfl
    obtain ⟨cdg, GT⟩ := ToldAt.taker (X := (cxOf CX0 P w K mg base nLaw "law" (defScope sLaw) f (.ref c) callerA outer s H E).nox) quiet hr TO
    have mk : Maker (cxOf CX0 P w K mg base nLaw "law" (defScope sLaw) f (.ref c) callerA outer s H E).nox T c PP := ⟨TB, rfl, here, one⟩
    refine ⟨_, pss_cons (by exact (ps_set (i := 1) scLaw.nd rfl (Or.inr rfl) (pe_call PN.ok hr1 rfl PN.m PN.k PN.b .nil pass0 (pa_cons (pv 0) pa_nil))))
      (pss_cons (by exact (ps_for PassesOwn.never rfl (pi_range1 rfl mR (pa_cons (pe_op op_add pe_int (pe_callB (call_min2 rfl) (by rfl) mM (by decide +kernel) (pa_cons pe_int (pa_cons (pe_callB call_len_seq (by rfl) mL PySem.boot_len (pa_cons (pv 0) pa_nil)) pa_nil)))) pa_nil)) (by exact (pg_name (i := 2) scLaw.nd rfl (Or.inl rfl))) (pss_cons (by exact (ps_set (i := 3) scLaw.nd rfl (Or.inr rfl) (pe_call FW.ok hr3 rfl FW.m FW.k FW.b .nil pass0 (pa_cons (pv 1) pa_nil))))
      (pss_cons (by exact (ps_set (i := 10) scLaw.nd rfl (Or.inr rfl) (pe_lc (own := [("_law_k", 11)]) (g := gName 11) (tt := tYes) (te := tCall spSome [] (fun _ _ _ => False) (tCons (tVar 1) (tCons (tVar 3) tNil))) rfl scLaw.nd (pi_range1 rfl mR (pa_cons (pe_call DW.ok hr1 rfl DW.m DW.k DW.b .nil pass0 (pa_cons (pv 1) (pa_cons pe_int pa_nil))) pa_nil))
          (blkOk_by (N := nLaw) (sc := defScope sLaw) (by decide +kernel)) (fun _ _ _ _ _ => by exact (pg_name (i := 11) scLaw.nd rfl (Or.inl rfl))) (fun _ _ _ _ _ => by exact pts_nil)
          (fun _ _ _ _ _ => by exact (pe_call SO.ok hr4 rfl SO.m SO.k SO.b .nil pass0 (pa_cons (pv 1) (pa_cons (pv 3) pa_nil)))))))
      (pss_cons (by exact (ps_setLc (i := 4) (own := [("_law_k", 11)]) (g := gName 11) (tt := tNot (tB (tCall (spQ blkD) [] (fun _ _ _ => False) (tCons (tOp (rIxL K) (tVar 10) (tVar 11)) tNil)))) (te := tVar 11) rfl scLaw.nd rfl rfl (sw_true rfl rfl rfl (by decide +kernel)) (pi_range1 rfl mR (pa_cons (pe_callB call_len_seq (by rfl) mL PySem.boot_len (pa_cons (pv 10) pa_nil)) pa_nil))
          (blkOk_by (N := nLaw) (sc := defScope sLaw) (by decide +kernel)) (fun _ _ _ _ _ => by exact (pg_name (i := 11) scLaw.nd rfl (Or.inl rfl))) (fun _ _ _ _ _ => by exact (pts_one (pt_not (pt_val (pe_call IB.ok hr3 rfl IB.m IB.k IB.b .nil pass0 (pa_cons (pe_ix ix_list (pv 10) (pv 11) (fun _ _ => rfl)) pa_nil))))))
          (fun _ _ _ _ _ => by exact (pv 11))))
      (pss_cons (by exact (ps_set (i := 5) scLaw.nd rfl (.inl rfl) (pe_goL mk GT hr9 rfl (lamS_by (sc := defScope sLaw) (by decide +kernel)) rfl (fun _ _ _ _ _ => rfl) (fun A2 outer2 s2 H2 E2 f2 c2 r => by exact (pe_call CA.ok r rfl CA.m CA.k CA.b .nil (passes_call (takes_of rfl rfl rfl rfl) (fun _ _ _ _ h => h)) (pa_cons (pv 10) pa_nil))))))
      (pss_cons (by exact (ps_if (pt_cmpR (op_neNil hu6) (pv 4) (pe_lst pa_nil) (nomark _)) (pss_one (by exact (ps_if (pt_cmpR (op_neD hu6) (pv 5) (pe_tup (pa_cons pe_str (pa_cons (pe_ix ix_list (pv 4) pe_int (fun _ _ => rfl)) (pa_cons pe_bl pa_nil)))) (nomark _)) (pss_one (by exact (ps_ret pe_bl))) pss_nil))) (pss_one (by exact (ps_if (pt_not (pt_val (pe_callG AS.ok (by rfl) hr12 (by rfl) AS.m AS.k AS.b pass0 (pa_cons (pv 1) (pa_cons (pv 10) (pa_cons (pe_ix ix_tup (pv 5) pe_int (fun _ _ => rfl)) pa_nil)))))) (pss_one (by exact (ps_ret pe_bl))) pss_nil)))))
      (pss_cons (by exact (ps_if (PW.pt (pw_or (pt_not (pt_val (pe_callG MR.ok (by rfl) hr12 (by rfl) MR.m MR.k MR.b pass0 (pa_cons (pe_call SO.ok hr4 rfl SO.m SO.k SO.b .nil pass0 (pa_cons (pv 1) (pa_cons (pv 3) pa_nil))) pa_nil)))) (pw_or1 (pt_not (pt_val (pe_call AP.ok hr9 rfl AP.m AP.k AP.b .nil pass0 (pa_cons (pv 1) (pa_cons (pv 3) pa_nil)))))))) (pss_one (by exact (ps_ret pe_bl))) pss_nil))
      (pss_cons (by exact (ps_par (i := 6) (j := 7) (by rfl) scLaw.nd rfl rfl (by decide) rfl rfl (pa_cons (pe_call RS.ok hr4 rfl RS.m RS.k RS.b .nil pass0 (pa_cons (pv 1) (pa_cons (pv 3) (pa_cons pe_int (pa_cons pe_int pa_nil))))) (pa_cons (pe_call LB.ok hr4 rfl LB.m LB.k LB.b .nil pass0 (pa_cons (pv 1) (pa_cons (pv 3) (pa_cons pe_int (pa_cons (pe_lst (pa_cons pe_int (pa_cons pe_int (pa_cons pe_int (pa_cons (pe_op op_pow pe_int pe_int) pa_nil))))) pa_nil))))) pa_nil)) (by rfl)))
      (pss_cons (by exact (ps_set (i := 8) scLaw.nd rfl (.inl rfl) (pe_op (op_ownA G.g.add G.g.at_ G.g.fn G.g.b pass0 hr7 G.g.self) (pe_cmeth (pe_glob (v := .ref C) rfl G.g.nm rfl) G.oR G.oM G.oF hr7 passN (pa_cons (pv 6) pa_nil)) (pe_call LMd.ok hr8 rfl LMd.m LMd.k LMd.b .nil pass0 (pa_cons (pv 7) pa_nil)))))
      (pss_cons (by exact (ps_if (pt_not (pt_val (pe_callG AS.ok (by rfl) hr12 (by rfl) AS.m AS.k AS.b pass0 (pa_cons (pv 1) (pa_cons (pe_ifExp (pt_cmpR (op_neNil hu6) (pv 6) (pe_lst pa_nil) (nomark _)) (pe_op op_cat (pe_lst (pa_cons (pe_tup (pa_cons (pv 6) (pa_cons pe_int pa_nil))) pa_nil)) (pv 7)) (pv 7)) (pa_cons (pv 8) pa_nil)))))) (pss_one (by exact (ps_ret pe_bl))) pss_nil))
      (pss_cons (by exact (ps_set (i := 9) scLaw.nd rfl (Or.inr rfl) (pe_call AN.ok hr3 rfl AN.m AN.k AN.b .nil pass0 (pa_cons (pv 1) pa_nil))))
      (pss_one (by exact (ps_if (PW.pt (pw_or (pt_not (pt_val (pe_callB call_isiT (by rfl) isM (by decide +kernel) (pa_cons (pv 9) (pa_cons (pe_tup (pa_cons (pe_bltn (v := .ty "list") (by rfl) mLi (by decide +kernel) rfl) (pa_cons (pe_bltn (v := .ty "tuple") (by rfl) mT (by decide +kernel) rfl) pa_nil))) pa_nil))))) (pw_or1 (pt_cmpR (op_neNil hu6) (pe_lc (own := [("_law_row_here", 12)]) (g := gName 12) (tt := tNot (tB (tCall (spQ lineD) [] (fun _ _ _ => False) (tCons (tVar 12) tNil)))) (te := tVar 12) rfl scLaw.nd (pi_sq (pv 9))
        (blkOk_by (N := nLaw) (sc := defScope sLaw) (by decide +kernel))
        (fun _ _ _ _ _ => by exact (pg_name (i := 12) scLaw.nd rfl (Or.inl rfl)))
        (fun _ _ _ _ _ => by exact (pts_one (pt_not (pt_val (pe_call IR.ok hr2 rfl IR.m IR.k IR.b .nil pass0 (pa_cons (pv 12) pa_nil))))))
        (fun _ _ _ _ _ => by exact (pv 12))) (pe_lst pa_nil) (nomark _))))) (pss_one (by exact (ps_if (pt_cmpR (op_neD hu6) (pe_goL mk GT hr9 rfl (lamS_by (sc := defScope sLaw) (by decide +kernel)) rfl (fun _ _ _ _ _ => rfl) (fun A2 outer2 s2 H2 E2 f2 c2 r => by exact (pe_cmeth (pe_glob (v := .ref C) rfl G.g.nm rfl) G.oR G.oM G.oF r (passes_call (takes_of rfl rfl rfl rfl) (fun _ _ _ _ h => h)) (pa_cons (pv 9) pa_nil)))) (pe_tup (pa_cons pe_str (pa_cons (pe_callB (call_repr quiet hu6) (by rfl) mRe (by decide +kernel) (pa_cons (pv 9) pa_nil)) (pa_cons pe_bl pa_nil)))) (nomark _)) (pss_one (by exact (ps_ret pe_bl))) pss_nil))) pss_nil)))))))))))))))
      (pss_one (by exact (ps_ret (pe_and (pe_cmpR op_eq (pe_prop (pe_cmeth (pe_glob (v := .ref C) rfl G.g.nm rfl) G.oR G.oM G.oF hr7 passN (pa_cons (pe_lst pa_nil) pa_nil)) G.g.k.cls G.lnP G.ln hr3 G.lnB .nil pass0 rfl) pe_int (nomark _)) (pe_one (pe_cmpR (op_eqD hu6) (pe_meth (pe_cmeth (pe_glob (v := .ref C) rfl G.g.nm rfl) G.oR G.oM G.oF hr7 passN (pa_cons (pe_tup (pa_cons pe_str (pa_cons pe_str pa_nil))) pa_nil)) G.g.k.cls G.ptM G.pt hr4 G.ptB .nil passN (pa_cons pe_int (pa_cons pe_int pa_nil))) (pe_lst (pa_cons pe_str (pa_cons pe_str pa_nil))) (nomark _)))))))), ?_⟩
    refine ⟨_, rfl, a, ns, rfl, hS, hl, fun d c0 ms H1 pen1 sm1 nd nc => ?_⟩
    have hS1 := sm1.seq hS
    have T1 := Tabs.same hT sm1
    refine ⟨_, rfl, a, _, rfl, .inl hS1, _, _, rfl, _, _, rfl, rfl, _, rfl, ?_, ?_, for_range (lo := 0) (n := ((3 : Int) + (if (((ns.map V.int).length : Nat) : Int) < 4 then (((ns.map V.int).length : Nat) : Int) else 4)).toNat) (fun i σ X => (∃ x2 x3 x4 x5 x6 x7 x8 x9 x10 x11 x12 : Option V, σ = [some (.ref a), some (.ref d), x2, x3, x4, x5, x6, x7, x8, x9, x10, x11, x12]) ∧ PenAt X d c0 (1000 * i) ms ∧ Tabs T X) ⟨⟨_, _, _, _, _, _, _, _, _, _, _, rfl⟩, pen1.le (by omega), T1⟩ (fun i σ X hi pw => ?_) (fun σ X pw => ?_)⟩
    · split <;> omega
    · split <;> omega
    · obtain ⟨⟨x2, x3, x4, x5, x6, x7, x8, x9, x10, x11, x12, rfl⟩, pX, TX⟩ := pw
      have hi2 : i < 8 := by
        have h : ((3 : Int) + (if (((ns.map V.int).length : Nat) : Int) < 4 then (((ns.map V.int).length : Nat) : Int) else 4)) ≤ 7 := by split <;> omega
        omega
      obtain ⟨kvX, hdX⟩ := pX.dict
      refine ⟨_, rfl, d, c0, 1000 * i, ms, rfl, pX, by omega, fun z H2 sz p2 b2 => ?_⟩
      have T2 := Tabs.but TX b2 hdX
      obtain ⟨kv2, hd2⟩ := p2.dict
      have z2 := sz.two
      have z3 := sz.three
      refine ⟨_, rfl, d, c0, 1000 * i + 4, ms, 4, rfl, p2, by omega, by decide, by decide, fun r H3 r0 r1 p3 b3 => ⟨r, rfl, by omega, by omega, fun D nD => ?_⟩⟩
      have T3 := Tabs.but T2 b3 hd2
      obtain ⟨kv3, hd3⟩ := p3.dict
      obtain ⟨nDd, nDc⟩ := p3.fresh nD
      refine lc_range (fun j G => (∃ us ds, G D = some (.lst us) ∧ DzAll (fun a => a ≠ d ∧ a ≠ D) G us ds ∧ us.length = j) ∧ PenAt G d c0 (1000 * i + 5 + 30 * j) ms ∧ But d H3 G) ⟨⟨[], [], upd_same, .nil, rfl⟩, (by rw [show 1000 * (i : Int) + 5 + 30 * ((0 : Nat) : Int) = 1000 * i + 4 + 1 by omega]; exact p3.put nDd nDc), But.same (same_upd nD)⟩ (fun j G hj p => ?_) (fun H4 p => ?_)
      · obtain ⟨⟨us, ds, pD, dz, ul⟩, pP, pB⟩ := p
        refine ⟨rfl, ?_⟩
        dsimp only [tYes]
        rw [if_pos rfl]
        have j4 : j < 4 := by omega
        refine ⟨_, rfl, _, rfl, d, c0, _, ms, z, rfl, pP, by omega, sz, fun v e G1 zv p4 b4 => ?_⟩
        have kp : Keeps (fun a => a ≠ d ∧ a ≠ D) G1 (upd G1 D (.lst (us ++ [v]))) := fun b o n eb _ => by rw [upd_ne n.2]; exact eb
        refine ⟨us, b4 _ _ pD nDd, Nat.lt_of_le_of_lt (show us.length ≤ 4 by omega) (by decide), ⟨us ++ [v], ds ++ [e], upd_same, ?_, by rw [List.length_append, ul]; rfl⟩, ?_, (pB.trans b4).put nD⟩
        · refine DzAll.keep kp (fun _ z => z) _ _ (DzAll.app (DzAll.keep (Keeps.but b4 (fun z => z.1 rfl)) (fun _ z => z) ds us dz) (.cons (zv.imp fun a h => ⟨h.1, fun z => by rw [z, pD] at h; cases h.2⟩) .nil))
        · refine (p4.put nDd nDc).le ?_
          omega
      obtain ⟨⟨us, ds, hD, dz, ul⟩, p4, b4⟩ := p
      have T4 := Tabs.but T3 b4 hd3
      have p4 := p4.le (show 1000 * (i : Int) + 5 + 30 * (r.toNat : Nat) ≤ 1000 * i + 100 by omega)
      have ul3 : us.length ≤ 3 := by omega
      have dl := dz.len
      refine ⟨_, rfl, D, us, rfl, .inl (SqL.of hD), _, rfl, by omega, by omega, fun W nW => ?_⟩
      refine lc_range (fun j Y => (∃ ws : List Nat, Y W = some (.lst (ws.map fun j : Nat => V.int (j : Int))) ∧ ws.head? = badD (ds.take j) ∧ ws.length ≤ j) ∧ Same H4 Y) ⟨⟨[], upd_same, rfl, Nat.le_refl _⟩, same_upd nW⟩ (fun j Y hj p => ?_) (fun H5 p => ?_)
      · obtain ⟨⟨ws, pW, wh, wl⟩, pS⟩ := p
        have hj2 : j < us.length := by omega
        have hv : us[j]? = some us[j] := List.getElem?_eq_getElem hj2
        obtain ⟨e, he, ze⟩ := dz.at_ hv
        refine ⟨rfl, ?_⟩
        refine ⟨_, rfl, _, rfl, D, us, _, _, rfl, rfl, SqL.of (pS _ _ hD), (by rw [Int.zero_add]; exact atI_nat hv), _, _, e, rfl, ze.same pS, fun Z sZ => ⟨_, rfl, ?_⟩⟩
        have nx := bad_take he
        cases eb : blkD e with
        | true =>
          rw [eb] at nx
          show (if (!true) = true then _ else _)
          rw [if_neg (by decide)]
          refine ⟨⟨ws, sZ _ _ pW, ?_, by omega⟩, pS.trans sZ⟩
          rw [nx, wh]
          simp
        | false =>
          rw [eb] at nx
          show (if (!false) = true then _ else _)
          rw [if_pos (by decide)]
          refine ⟨_, rfl, _, sZ _ _ pW, ?_, ⟨ws ++ [j], ?_, ?_, ?_⟩, fun b u eb => ?_⟩
          · rw [List.length_map]
            exact Nat.lt_of_le_of_lt (show ws.length ≤ 3 by omega) (by decide)
          · rw [upd_same, List.map_append, Int.zero_add]
            rfl
          · rw [nx, ← wh]
            cases ws <;> rfl
          · rw [List.length_append]
            exact Nat.add_le_add wl (Nat.le_refl 1)
          · rw [upd_ne (ne_of_none eb nW)]
            exact sZ _ _ (pS _ _ eb)
      obtain ⟨⟨ws, hW, wh, wl⟩, s45⟩ := p
      have eall : ds.take ((us.length : Nat) : Int).toNat = ds := by rw [Int.toNat_natCast, dl, List.take_length]
      rw [eall] at wh
      have T5 := Tabs.same T4 s45
      have p5 := p4.keep s45
      have hD5 := s45 _ _ hD
      have dz5 := dz.same s45
      clear T4 T3 T2 s45 b4
      cases eb : badD ds
      case' none =>
        refine ⟨T5, fun H6 e6 T6 => ⟨_, rfl, D, us, _, ds, rfl, e6 _ _ hD5 (fun _ z => by cases z), DzAll.keep (Keeps.ext e6) (fun _ z => z) ds us dz5, ul3, (fun k hk => by rw [eb] at hk; cases hk), fun _ bs pr vb zz H7 lt s7 => ⟨(by show 2 ≤ sizeLine; decide), fun p np => ?_⟩⟩⟩
        have x7 := ExtN.trans e6 (Same.extN s7)
        have ew : ws = [] := by
          rw [eb] at wh
          cases ws with
          | nil => rfl
          | cons x y => cases wh
        subst ew
        have sp := same_upd (o := .tup [.str "told", zz]) np
        refine ⟨_, rfl, (by show 0 ≤ sizeLine; decide), fun e0 ne0 => ⟨W, e0, _, rfl, rfl, SqL.of (same_upd ne0 _ _ (sp _ _ (x7 _ _ hW (fun _ z => by cases z)))), SqL.of upd_same, ne_of_none (sp _ _ (x7 _ _ hW (fun _ z => by cases z))) ne0, _, rfl, iteF ?_⟩⟩
        have se := same_upd (o := .lst []) ne0
        have spe := sp.trans se
        have x8 := ExtN.trans x7 (Same.extN spe)
        have lbs : LBs (upd (upd H7 p (.tup [.str "told", zz])) e0 (.lst [])) D bs := ⟨us, x8 _ _ hD5 (fun _ z => by cases z), L2.Paired.mapP pr fun _ _ z => z.keep (Keeps.same (s7.trans spe)) (fun _ _ => trivial)⟩
        refine ⟨_, rfl, _, rfl, _, rfl, p, _, 1, zz, rfl, rfl, SqT.of (se _ _ upd_same), rfl, d, c0, 1000 * i + 100, ms, D, zz, bs, bs, rfl, p5.extN x8, by omega, lbs, fun b hb => (vb b hb).1, by rw [pair_len pr]; omega, lt.same spe, ⟨fun b hb => (vb b hb).1, by rw [pair_len pr]; omega⟩, rfl, Tabs.same (Tabs.same T6 s7) spe, fun HZ pZ0 bZ TZ => ⟨_, rfl, iteF ?_⟩⟩
        have pZ : PenAt HZ d c0 (1000 * i + 200) ms := pZ0.le (by omega)
      case' some k =>
        refine ⟨T5, fun H6 e6 T6 => ⟨_, rfl, D, us, _, ds, rfl, e6 _ _ hD5 (fun _ z => by cases z), DzAll.keep (Keeps.ext e6) (fun _ z => z) ds us dz5, ul3, (fun k2 hk dd H7 nd7 s7 hd7 => ⟨dd, .int (k2 : Int), rfl, .inl ⟨rfl, hd7, fun p np => ?_⟩⟩), fun h => by rw [eb] at h; cases h⟩⟩
        have ek : k2 = k := Option.some.inj (hk.symm.trans eb)
        subst ek
        have x7 := ExtN.trans e6 (Same.extN s7)
        obtain ⟨wr_, rfl⟩ : ∃ wr_, ws = k2 :: wr_ := by
          rw [eb] at wh
          cases ws with
          | nil => cases wh
          | cons x y => injection wh with wh; exact ⟨y, by rw [wh]⟩
        have sp := same_upd (o := .tup [.str "block", .int (k2 : Int), .bl true]) np
        refine ⟨_, rfl, (by show 0 ≤ sizeLine; decide), fun e0 ne0 => ⟨W, e0, _, rfl, rfl, SqL.of (same_upd ne0 _ _ (sp _ _ (x7 _ _ hW (fun _ z => by cases z)))), SqL.of upd_same, ne_of_none (sp _ _ (x7 _ _ hW (fun _ z => by cases z))) ne0, _, rfl, iteT ?_⟩⟩
        have se := same_upd (o := .lst []) ne0
        have spe := sp.trans se
        have x8 := ExtN.trans x7 (Same.extN spe)
        refine ⟨_, rfl, _, rfl, W, _, 0, .int (k2 : Int), rfl, rfl, SqL.of (x8 _ _ hW (fun _ z => by cases z)), atI_nat (j := 0) rfl, (by show 3 ≤ sizeLine; decide), fun q nq => ?_⟩
        have sq := same_upd (o := .tup [.str "block", .int (k2 : Int), .bl true]) nq
        have lay : PyData.canLay0 (.tuple [.str "block", .int (k2 : Int), .bool true]) = true := by
          unfold PyData.canLay0
          show (PyData.canLay0 (.str "block") && (PyData.canLay0 (.int (k2 : Int)) && (PyData.canLay0 (.bool true) && true))) = true
          unfold PyData.canLay0
          rw [show PyData.strOk "block" = true by decide +kernel]
          rfl
        have shp : SeqAt.shaped (.tuple [.str "block", .int (k2 : Int), .bool true]) = true := by
          unfold SeqAt.shaped
          rw [lay, decide_eq_true (show PyData.depth (.tuple [.str "block", .int (k2 : Int), .bool true]) ≤ 64 by simp [PyData.depth, PyData.depthAll])]
          rfl
        refine ⟨.tuple [.str "block", .int (k2 : Int), .bool true], .tuple [.str "block", .int (k2 : Int), .bool true], .tup (.inl (.inl ((se.trans sq) _ _ upd_same))) (.cons (.str _) (.cons (.int _) (.cons (.bl _) .nil))), .tup (.inl (.inl upd_same)) (.cons (.str _) (.cons (.int _) (.cons (.bl _) .nil))), shp, shp, _, rfl, ?_⟩
        rw [SeqAt.eqv_refl _ lay]
        refine iteF ?_
        have x9 := ExtN.trans x8 (Same.extN sq)
        have pZ : PenAt _ d c0 (1000 * i + 200) ms := (p5.extN x9).le (by omega)
        have TZ := Tabs.same (Tabs.same (Tabs.same T6 s7) spe) sq
        generalize upd (upd (upd H7 p (.tup [.str "block", .int (k2 : Int), .bl true])) e0 (.lst [])) q (.tup [.str "block", .int (k2 : Int), .bl true]) = HZ at pZ TZ ⊢
      all_goals
        obtain ⟨kvZ, hdZ⟩ := pZ.dict
        refine ⟨_, rfl, _, rfl, d, c0, _, ms, z, rfl, pZ, by omega, sz, fun ov oe HA zo pA bA => ?_⟩
        have TA := Tabs.but TZ bA hdZ
        obtain ⟨kvA, hdA⟩ := pA.dict
        refine ⟨_, ov, oe, rfl, zo, TA, fun HB eB TB2 => ⟨_, rfl, iteF ?_⟩⟩
        have pB := pA.extN eB
        obtain ⟨kvB, hdB⟩ := pB.dict
        refine ⟨_, rfl, _, rfl, d, c0, _, ms, z, rfl, pB, by omega, sz, fun HC pC bC => ⟨_, rfl, iteF ?_⟩⟩
        have TC := Tabs.but TB2 bC hdB
        obtain ⟨kvC, hdC⟩ := pC.dict
        refine ⟨_, rfl, _, rfl, d, c0, _, ms, z, 6, 3, rfl, pC, by omega, by omega, by omega, by decide, by decide, fun R rs HD hR lrs okr pD bD nR0 => ?_⟩
        have TD := Tabs.but TC bD hdC
        obtain ⟨kvD, hdD⟩ := pD.dict
        have h29 : (10 : Int) ^ (29 : Int).toNat = ((10 ^ 29 : Nat) : Int) := by decide +kernel
        refine ⟨_, rfl, _, rfl, _, _, rfl, rfl, ⟨by decide, by decide, by decide⟩, (by show 4 ≤ sizeLine; decide), fun L nL => ?_⟩
        have sL := same_upd (o := .lst [.int 1, .int 2, .int 7, .int ((10 : Int) ^ (29 : Int).toNat)]) nL
        have eL : ([.int 1, .int 2, .int 7, .int ((10 : Int) ^ (29 : Int).toNat)] : List V) = ([1, 2, 7, 10 ^ 29] : List Nat).map fun t : Nat => V.int (t : Int) := by
          rw [h29]
          rfl
        refine ⟨d, c0, _, ms, z, 3, L, [1, 2, 7, 10 ^ 29], rfl, pD.keep sL, by omega, sz, by decide, by rw [upd_same, ← eL], List.cons_ne_nil _ _, (by show 4 ≤ 20; decide), fun t ht => ?_, fun q bl ub HE hq prL okb fewb pE bE => ?_⟩
        · simp only [List.mem_cons, List.not_mem_nil, or_false] at ht
          rcases ht with rfl | rfl | rfl | rfl <;> decide
        have TE := Tabs.but (Tabs.same TD sL) bE (sL _ _ hdD)
        obtain ⟨kvE, hdE⟩ := pE.dict
        have nRd : R ≠ d := fun zz => by rw [zz, hdD] at hR; cases hR
        have hRE := bE _ _ (sL _ _ hR) nRd
        have oks_ : ∀ y ∈ rs, OkS y := fun y hy => ⟨by have := (okr y hy).2; omega, fun x hx => by have := sz.lets x ((okr y hy).1 x hx); have := this.2.1; omega⟩
        have okl : ∀ y ∈ rs, lineB y = true ∧ y.length ≤ 30 := fun y hy => ⟨lineB_of fun x hx => sz.lets x ((okr y hy).1 x hx), by have := (okr y hy).2; omega⟩
        have tx : txtD (.list (rs.map PyData.str)) = true := lines_all fun y hy => (okl y hy).1
        have prE : Paired (fun b v => BkE (fun a => a ≠ d) HE b v) bl ub := L2.Paired.mapP prL fun _ _ zz => zz.e pE
        have vbl : ∀ b ∈ bl, Vb b ∧ b.1.length ≤ 4 := fun b hb => ⟨(okb b hb).v, (okb b hb).four⟩
        refine ⟨_, _, rfl, rfl, _, rfl, (fun _ => True), .ref R, .list (rs.map PyData.str), rfl, .lst trivial hRE (by rw [List.length_map]; omega) (dz_strs oks_), (fun nn => by rw [tx] at nn; cases nn), fun rs2 ers _ vo HF lo sF => ?_⟩
        obtain rfl : rs = rs2 := map_dstr_inj (Option.some.inj ers)
        clear ers
        refine ⟨_, rfl, q, ub, bl, _, rfl, sF _ _ hq, L2.Paired.mapP prE fun _ _ zz => zz.keep (Keeps.same sF) (fun _ z => z), vbl, by omega, fun vm HG lm sG => ?_⟩
        have lo2 := lo.same sG
        obtain ⟨a1, dx1, t1, u1, rfl, ha1, _⟩ := id lo2
        obtain ⟨a2, dx2, t2, u2, rfl, ha2, _⟩ := id lm
        have lofB : (ofB rs).length ≤ 1 := by
          unfold ofB
          split <;> simp
        refine ⟨a1, dx1, _, a2, dx2, _, rfl, rfl, ha1, ha2, ofB rs, bl, _, _, rfl, lo2, lm, by omega, fun vz HH lz sH => ?_⟩
        have sEH := (sF.trans sG).trans sH
        have pH := pE.keep sEH
        have TH := Tabs.same TE sEH
        have hRH := sEH _ _ hRE
        have hqH := sEH _ _ hq
        have prH : Paired (fun b v => BkE (fun _ => True) HH b v) bl ub := L2.Paired.mapP prE fun _ _ zz => zz.keep (Keeps.same sEH) (fun _ _ => trivial)
        have ulb : ub.length ≤ 3 := by rw [← pair_len prE]; exact fewb
        refine ⟨_, rfl, _, rfl, (by show 0 ≤ sizeLine; decide), fun e1 ne1 => ⟨R, e1, _, rfl, rfl, SqL.of (same_upd ne1 _ _ hRH), SqL.of upd_same, ne_of_none hRH ne1, _, rfl, ?_⟩⟩
        have s1 := same_upd (o := .lst []) ne1
        have vrs : rs ≠ [] → Vb ((rs, 1) : Bk Str) := fun ne => ⟨by cases rs with
          | nil => exact absurd rfl ne
          | cons x y => exact Nat.succ_pos _, by show rs.length ≤ 100; omega, Nat.le_refl 1, by show 1 ≤ 10 ^ 30; decide, okl⟩
        have rbz : Rb (ofB rs ++ bl) := ⟨fun b hb => by
          rcases List.mem_append.mp hb with h | h
          · unfold ofB at h
            split at h
            · cases h
            · rename_i nr
              rw [List.mem_singleton.mp h]
              exact vrs fun e => nr (by rw [e]; rfl)
          · exact (vbl b h).1, by rw [List.length_append]; omega⟩
        have TH1 := Tabs.same TH s1
        by_cases e0 : rs = []
        case' pos =>
          subst e0
          refine iteF ⟨_, rfl, _, rfl, d, c0, _, ms, q, vz, bl, ofB [] ++ bl, rfl, pH.keep s1, by omega, ⟨ub, s1 _ _ hqH, L2.Paired.mapP prH fun _ _ zz => zz.keep (Keeps.same s1) (fun _ z => z)⟩, (fun b hb => (vbl b hb).1), by omega, lz.same s1, rbz, rfl, TH1, fun HJ pJ0 bJ TJ => ⟨_, rfl, iteF ?_⟩⟩
          have pJ : PenAt HJ d c0 (1000 * i + 600) ms := pJ0.le (by omega)
        case' neg =>
          have e1 : (rs.map V.str).isEmpty = false := by
            cases rs with
            | nil => exact absurd rfl e0
            | cons x y => rfl
          rw [e1]
          have eofb : ofB rs = [((rs, 1) : Bk Str)] := by
            unfold ofB
            rw [if_neg]
            intro h
            exact e0 (List.isEmpty_iff.mp h)
          refine iteT ⟨_, rfl, (by show 2 ≤ sizeLine; decide), fun t nt => ⟨(by show 1 ≤ sizeLine; decide), fun l nl => ⟨_, rfl, l, q, _, _, rfl, rfl, upd_same, same_upd nl _ _ (same_upd nt _ _ (s1 _ _ hqH)), (by show 1 + ub.length ≤ sizeLine; exact Nat.le_trans (show _ ≤ 4 by omega) (by decide)), fun m nm => ?_⟩⟩⟩
          have st := same_upd (o := .tup [.ref R, .int 1]) nt
          have sl := same_upd (o := .lst [.ref t]) nl
          have sm := same_upd (o := .lst ([.ref t] ++ ub)) nm
          have s2 := s1.trans (st.trans (sl.trans sm))
          refine ⟨_, rfl, d, c0, _, ms, m, vz, (rs, 1) :: bl, ofB rs ++ bl, rfl, pH.keep s2, by omega, ⟨[.ref t] ++ ub, upd_same, .cons ⟨t, R, _, rfl, trivial, trivial, (sl.trans sm) _ _ upd_same, s2 _ _ hRH, .inl rfl⟩ (L2.Paired.mapP prH fun _ _ zz => zz.keep (Keeps.same s2) (fun _ z => z))⟩, fun b hb => ?_, by rw [List.length_cons]; omega, lz.same s2, rbz, by rw [eofb]; rfl, Tabs.same TH s2, fun HJ pJ0 bJ TJ => ⟨_, rfl, iteF ?_⟩⟩
          · rcases List.mem_cons.mp hb with h | h
            · rw [h]
              exact vrs e0
            · exact (vbl b h).1
          have pJ : PenAt HJ d c0 (1000 * i + 600) ms := pJ0.le (by omega)
        all_goals
          obtain ⟨kvJ, hdJ⟩ := pJ.dict
          refine ⟨_, rfl, d, c0, _, ms, rfl, pJ, by omega, fun od oe HK zo0 fo pK bK => ?_⟩
          have zo := zo0.imp (M := fun a => a ≠ d) fun _ h => h.1
          have TK := Tabs.but TJ bK hdJ
          refine ⟨_, rfl, (by show 2 ≤ sizeLine; decide), fun TT nT => ?_⟩
          have sTT := same_upd (o := .tup [.ty "list", .ty "tuple"]) nT
          have zoT := zo.same sTT
          have TT1 := Tabs.same TK sTT
          have pT := pK.keep sTT
          refine ⟨_, TT, _, _, _, _, rfl, upd_same, .cons (.ty _) (.cons (.ty _) .nil), zoT.ty, kit_seq oe, _, rfl, ?_⟩
          generalize upd HK TT (.tup [.ty "list", .ty "tuple"]) = HT at zoT TT1 pT ⊢
          cases ei : itemsD oe
          case' none =>
            have notx : txtD oe = false := by
              unfold txtD
              rw [ei]
            refine iteT ?_
          case' some es =>
            obtain ⟨ao, oo, ys, rfl, _, ha, ho, _, ry⟩ := zoT.items ei
            refine iteF ⟨_, rfl, ao, oo, ys, rfl, ha, ho, fun J wk DD nDD => ?_⟩
            refine lc_it wk (fun i Y => (∃ ws : List V, Y DD = some (.lst ws) ∧ ws.length ≤ i ∧ ws.isEmpty = (es.take i).all lineD) ∧ Same HT Y) ⟨⟨[], upd_same, Nat.le_refl _, rfl⟩, same_upd nDD⟩ (fun i Y _ p => p.2 _ _ ha) (fun i x Y Y' hi p yl => ?_) (fun Y p => ?_)
            · obtain ⟨⟨ws, pD, wl, wa⟩, pS⟩ := p
              obtain ⟨rfl, hxi⟩ := yl
              obtain ⟨dz2, hd2, hz2⟩ := ry.at_ hxi
              refine ⟨rfl, ?_⟩
              refine ⟨_, rfl, _, x, dz2, rfl, hz2.same pS, fun Z sZ => ⟨_, rfl, ?_⟩⟩
              have nx : (es.take (i + 1)).all lineD = ((es.take i).all lineD && lineD dz2) := by
                rw [List.take_succ, hd2, List.all_append]
                congr 1
                exact Bool.and_true _
              cases el : lineD dz2 with
              | true =>
                show (if (!true) = true then _ else _)
                rw [if_neg (by decide)]
                exact ⟨⟨ws, sZ _ _ pD, by omega, by rw [nx, el, Bool.and_true]; exact wa⟩, pS.trans sZ⟩
              | false =>
                show (if (!false) = true then _ else _)
                rw [if_pos (by decide)]
                refine ⟨_, rfl, ws, sZ _ _ pD, ?_, ⟨ws ++ [x], upd_same, ?_, ?_⟩, fun b u e => ?_⟩
                · exact Nat.lt_of_le_of_lt (show ws.length ≤ 1000 by omega) (by decide)
                · rw [List.length_append]
                  exact Nat.add_le_add wl (Nat.le_refl 1)
                · rw [nx, el, Bool.and_false]
                  cases ws <;> rfl
                · rw [upd_ne (ne_of_none e nDD)]
                  exact sZ _ _ (pS _ _ e)
            obtain ⟨⟨ws, pD, wl, wa⟩, pS⟩ := p
            rw [ry.len, List.take_length] at wa
            refine ⟨(by show 0 ≤ sizeLine; decide), fun p np => ⟨DD, p, ws, rfl, rfl, SqL.of (same_upd np _ _ pD), SqL.of upd_same, ne_of_none pD np, ?_⟩⟩
            rw [wa]
            have sE := pS.trans (same_upd (o := .lst []) np)
            have zoT2 := zoT.same sE
            have TT2 := Tabs.same TT1 sE
            have pT2 := pT.keep sE
            cases ea : es.all lineD
            case' true =>
              exact ⟨_, rfl, iteF ⟨⟨_, _, _, _, _, _, _, _, _, _, _, rfl⟩, pT2.le (by omega), TT2⟩⟩
            have notx : txtD oe = false := by
              unfold txtD
              rw [ei]
              exact ea
            refine ⟨_, rfl, iteT ?_⟩
            clear zoT TT1 pT
            have zoT := zoT2
            have TT1 := TT2
            have pT := pT2
          all_goals
            refine ⟨TT1, fun HM eM TM => ⟨rfl, _, rfl, (fun a => a ≠ d), _, oe, rfl, zoT.ext eM, (fun _ dd HN nd sN hd => ⟨dd, _, rfl, .inr (.inl ⟨rfl, hd, oe, ((zoT.ext eM).same sN).dx fo.ok, fo.sh, fun p np => ?_⟩)⟩), fun rs2 e2 ok2 => ?_⟩⟩
            · have sp := same_upd (o := .tup [.str "text", .str oe.shown, .bl true]) np
              have zN := ((zoT.ext eM).same sN).same sp
              refine ⟨_, rfl, _, oe, rfl, zN.dx fo.ok, fo.sh, (by show 3 ≤ sizeLine; decide), fun q2 nq2 => ?_⟩
              have sq := same_upd (o := .tup [.str "text", .str oe.shown, .bl true]) nq2
              have shd := shaped_told (k := "text") fo.txt (by decide +kernel)
              refine ⟨.tuple [.str "text", .str oe.shown, .bool true], .tuple [.str "text", .str oe.shown, .bool true], .tup (.inl (.inl (sq _ _ upd_same))) (.cons (.str _) (.cons (.str _) (.cons (.bl _) .nil))), .tup (.inl (.inl upd_same)) (.cons (.str _) (.cons (.str _) (.cons (.bl _) .nil))), shd.2, shd.2, _, rfl, ?_⟩
              rw [SeqAt.eqv_refl _ shd.1]
              have sNq := (sN.trans sp).trans sq
              exact iteF ⟨⟨_, _, _, _, _, _, _, _, _, _, _, rfl⟩, ((pT.extN eM).keep sNq).le (by omega), Tabs.same TM sNq⟩
            · exfalso
              unfold txtD at notx
              rw [e2] at notx
              have yes : (rs2.map PyData.str).all lineD = true := lines_all fun z hz => (ok2 z hz).1
              have no : (rs2.map PyData.str).all lineD = false := notx
              rw [yes] at no
              cases no
    · obtain ⟨⟨x2, x3, x4, x5, x6, x7, x8, x9, x10, x11, x12, rfl⟩, pX, TX⟩ := pw
      refine ⟨rfl, (by show 0 ≤ sizeLine; decide), fun L nL => ⟨(fun _ => True), .ref L, .list [], rfl, .lst trivial upd_same (by decide) .nil, (fun nn => by cases nn), fun rs2 e2 _ v1 H2 lt s2 => ?_⟩⟩
      obtain rfl : [] = rs2 := map_dstr_inj (xs := []) (Option.some.inj e2)
      obtain ⟨a1, dx1, t1, u1, rfl, ha1, _⟩ := id lt
      refine ⟨a1, dx1, _, rfl, ha1, ofB [], _, rfl, lt, ⟨fun b hb => (by cases hb), by decide⟩, fun H3 s3 => ⟨rfl, _, rfl, ?_⟩⟩
      rw [show ((wr (ofB [])).length : Int) = 0 from rfl, decide_eq_true rfl]
      refine iteT ?_
      have ok2 : ∀ y ∈ (["a", "b"] : List Str), OkS y := fun y hy => by
        simp only [List.mem_cons, List.not_mem_nil, or_false] at hy
        rcases hy with rfl | rfl <;> exact oks _ (by decide +kernel) (by decide +kernel)
      have okb2 : ∀ y ∈ (["a", "b"] : List Str), lineB y = true ∧ y.length ≤ 30 := fun y hy => by
        simp only [List.mem_cons, List.not_mem_nil, or_false] at hy
        rcases hy with rfl | rfl <;> exact ⟨by decide +kernel, by decide +kernel⟩
      refine ⟨rfl, (by show 2 ≤ sizeLine; decide), fun t nt => ⟨(fun _ => True), .ref t, .tuple ((["a", "b"] : List Str).map PyData.str), rfl, .tup (xs := (["a", "b"] : List Str).map V.str) trivial upd_same (by decide) (dz_strs ok2), (fun nn => by
        have h : txtD (.tuple ((["a", "b"] : List Str).map PyData.str)) = true := lines_all fun y hy => (okb2 y hy).1
        rw [h] at nn
        cases nn), fun rs2 e2 _ v2 H4 lt2 s4 => ?_⟩⟩
      obtain rfl : (["a", "b"] : List Str) = rs2 := map_dstr_inj (Option.some.inj e2)
      obtain ⟨a2, dx2, t2, u2, rfl, ha2, _⟩ := id lt2
      have vab : Vb ((["a", "b"], 1) : Bk Str) := ⟨by decide, by decide, Nat.le_refl 1, by decide, okb2⟩
      refine ⟨a2, dx2, _, rfl, ha2, rfl, ofB ["a", "b"], _, (fun _ => True), _, .int 1, (fun _ => True), _, .int 2, rfl, lt2, ⟨fun b hb => by rw [List.mem_singleton.mp hb]; exact vab, by decide⟩, .int _, .int _, (fun nn => by cases (show false = true from nn.symm.trans (by decide +kernel))), (fun kk ek2 _ nn => by
        injection ek2 with ek2
        rw [← ek2] at nn
        cases (show false = true from nn.symm.trans (by decide +kernel))), fun n2 g2 en eg _ _ _ p H5 hp np s5 => ⟨(by show 2 ≤ sizeLine; decide), fun q nq => ?_⟩⟩
      rw [wr_ofB] at hp
      have hp3 : H5 p = some (.lst ((["a", "b"] : List Str).map V.str)) := part_all (W := ["a", "b"]) en eg hp
      have sq := same_upd (o := .lst [.str "a", .str "b"]) nq
      refine ⟨.list ((["a", "b"] : List Str).map PyData.str), .list ((["a", "b"] : List Str).map PyData.str), .lst (SqL.of (sq _ _ hp3)) (dp_strs _), .lst (SqL.of upd_same) (dp_strs ["a", "b"]), shaped_lines ok2, shaped_lines ok2, ?_⟩
      rw [SeqAt.eqv_refl _ (lay_list ok2)]
      exact kk _
end
end LA
end
section
set_option Elab.async false
set_option linter.all false
set_option maxRecDepth 100000
set_option maxHeartbeats 4100000
namespace XJ
open PySem PySem.W PyProof.Rows L2 XK
/-- the mro of a class that stands right upon ValueError -/
def mroOver (K : Frag) (C : Addr) : Bool := match clsIn K C with
  | some cd => cd.mro == [.ref C, .type "ValueError", .type "Exception", .type "BaseException", .type "object"] && cd.hasDict
  | none => false
theorem over_cls {K : Frag} {C : Addr} (h : mroOver K C = true) : ∃ cd, clsIn K C = some cd ∧ cd.mro = [.ref C, .type "ValueError", .type "Exception", .type "BaseException", .type "object"] ∧ cd.hasDict = true := by
  unfold mroOver at h
  split at h
  · rename_i cd e
    rw [Bool.and_eq_true] at h
    exact ⟨cd, e, eq_of_beq h.1, h.2⟩
  · cases h
/-- what the written part says of an own ValueError class -/
structure ErrF (K : Frag) (x : Str) (C : Addr) : Prop where
  ns : nsIn K mainGlobals x = some (some (.ref C))
  bare : mroOver K C = true
  ini : excInitIn K C [.type "ValueError", .type "Exception", .type "BaseException", .type "object"] "ValueError.__new__" = true
  sa : findIn K (.ref C) "__setattr__" = some (some (.builtin "object.__setattr__"))
  ga : findIn K (.ref C) "__getattribute__" = some (some (.builtin "BaseException.__getattribute__"))
  gg : findIn K (.ref C) "__getattr__" = some none
  exC : subIn K (.ref C) (.type "BaseException") = some true
  kC : keepIn K (.ref C) = true
  hd : hasDictIn K C = true
  ac : findIn K (.ref C) "__class__" = some (some (.builtin "object.__class__"))
  gn : specialIn K (.builtin "object.__class__") "__get__" = some (some (.builtin "getset_descriptor.__get__"))
  tk : takesIn K (.builtin "object.__class__") = some true
  mo : mroIn K C (.type "object") = some true
  ty : typeIn K (.ref C) = some (.type "type")
  xc : ∃ nm q N bs bm sn sub ab col dd k0 k1 k2 k3 k5, K.lookup C = some (excClassObj nm q C N bs bm true sn sub ab col dd k0 k1 k2 k3 k5 "ValueError.__new__") ∧ PySem.HandSPX.refsVE bm = true
theorem xc_mk {K : Frag} {C : Addr} {nm q N bs bm sn sub ab col dd k0 k1 k2 k3 k5} (a : K.lookup C = some (excClassObj nm q C N bs bm true sn sub ab col dd k0 k1 k2 k3 k5 "ValueError.__new__")) (b : PySem.HandSPX.refsVE bm = true) :
    ∃ nm q N bs bm sn sub ab col dd k0 k1 k2 k3 k5, K.lookup C = some (excClassObj nm q C N bs bm true sn sub ab col dd k0 k1 k2 k3 k5 "ValueError.__new__") ∧ PySem.HandSPX.refsVE bm = true := ⟨_, _, _, _, _, _, _, _, _, _, _, _, _, _, _, a, b⟩
theorem ErrF.xt {K : Frag} {x : Str} {C : Addr} (F : ErrF K x C) : XT K C := by
  have S := PySem.F.store_ValueError
  obtain ⟨cd, hc, hm, hd⟩ := over_cls F.bare
  refine ⟨⟨"ValueError", _, _, _, PySem.F.excBase_ValueError, F.ini⟩, ⟨cd, hc, ?_, ?_, fun self => ?_, hd⟩, F.sa, F.ga, F.gg, F.exC, F.kC, F.hd, F.ac, F.gn, F.tk, F.mo⟩
  · rw [hm]
    rfl
  · rw [hm, List.contains_cons, S.hasOwner, Bool.or_true]
  · rw [hm, refuseLoop_ref]
    exact S.passes self
theorem ErrF.oex {K : Frag} {x : Str} {C : Addr} (F : ErrF K x C) : OexC K C := ⟨F.xc, F.sa, F.exC, F.ty, F.kC⟩
/-! ### two defs whose code objects have tables of their own -/
/-- the tables of the code objects at c and at d are unlike, and neither is written down -/
def tabsApart (K : Frag) (c d : Addr) : Bool := match K.lookup c, K.lookup d with
  | some ⟨_, _, .fields vs, _⟩, some ⟨_, _, .fields us, _⟩ => match (vs[11]? : Option Value), (us[11]? : Option Value) with
    | some (Value.ref p), some (Value.ref r) => p != r && (K.lookup p).isNone && (K.lookup r).isNone
    | _, _ => false
  | _, _ => false
theorem apart {K : Frag} {c d : Addr} (h : tabsApart K c d = true) : ∃ e1 d1 vs s1 e2 d2 us s2 p r, K.lookup c = some ⟨e1, d1, .fields vs, s1⟩ ∧ K.lookup d = some ⟨e2, d2, .fields us, s2⟩ ∧ vs[11]? = some (.ref p) ∧ us[11]? = some (.ref r) ∧ p ≠ r ∧ K.lookup p = none ∧ K.lookup r = none := by
  unfold tabsApart at h
  split at h
  · rename_i e1 d1 vs s1 e2 d2 us s2 h1 h2
    split at h
    · rename_i p r h3 h4
      rw [Bool.and_eq_true, Bool.and_eq_true] at h
      obtain ⟨⟨a, b⟩, e⟩ := h
      exact ⟨_, _, _, _, _, _, _, _, _, _, h1, h2, h3, h4, by simpa using a, by simpa using b, by simpa using e⟩
    · cases h
  · cases h
/-- as the head tells it of each def -/
def TabAt (h : Heap) (mg : Str → Option Value) (x : Str) : Prop := ∃ a o fd c P, mg x = some (.ref a) ∧ h.get? a = some o ∧ o.data = .func fd ∧ fd.code = .ref c ∧ h.IsCode c P #[] ∧ h.TableAt c P #[]
theorem tab_one {K : Frag} {h : Heap} {mg : Str → Option Value} {x : Str} {f c p : Addr} {oc : Value} {od : Option Addr} {fd : FuncData} {osl : Array (Option Value)} {e1 : Value} {d1 : Option Addr} {vs : Array Value} {s1 : Array (Option Value)} (X : K.In h) (T : TabAt h mg x) (m : mg x = some (.ref f)) (l : K.lookup f = some ⟨oc, od, .func fd, osl⟩) (hc : fd.code = .ref c)
    (k : K.lookup c = some ⟨e1, d1, .fields vs, s1⟩) (v : vs[11]? = some (.ref p)) : h.get? p = some { cls := .none, data := .fields #[] } ∧ CodeHd h c p := by
  obtain ⟨a, o, fd', c', P, h1, h2, h3, h4, h5, h6⟩ := T
  rw [m] at h1
  cases h1
  have g1 := X _ _ l
  rw [g1] at h2
  cases h2
  cases h3
  rw [hc] at h4
  cases h4
  have hd := CodeHd.of h5 h6
  obtain ⟨⟨o2, v2, e1', _, e3, e4⟩, hP⟩ := h6
  have g2 := X _ _ k
  rw [g2] at e1'
  cases e1'
  cases e3
  rw [v] at e4
  cases e4
  exact ⟨hP, hd⟩
theorem caller_walkU {l : PySem.W.OpenLaw} {n k : Nat} {q : Program} {loose : List Str} {XP : (Str → Option Value) → Heap → Prop} {YP : World → Heap → Prop} {d : DefRec} {K : Params → PySem.W.Frag} {x : Str}
    (most : l.most = some n) (small : n ≤ sizeLine) (plain : d.params.defaults = []) (room : Room k callerA) (Y : ∀ (w : World) (h : Heap), YP w h → (K w.params).In h)
    (F : ∀ (w : World) (mg : Str → Option Value) (fa : Addr) (h : Heap), YP w h → (K w.params).In h → h.Ns mainGlobals mg → mg d.name = some (.ref fa) → (∀ y ∈ (recsOf q).map (·.name), TabAt h mg y) → CallerAtT l w (K w.params) k n x mg fa h) :
    PySem.W.WalkO q loose XP YP l.row.toRowW d [] (fun f vs => PySem.call f vs) := by
  refine Att.attach_callB most plain fun w s₀ s₁ mg mb fa o pm cd doc a vs ns G y ho hd hcd hmg obj inz many _ gens => ?_
  have inn := Y w _ y
  obtain ⟨fd, cs, sp, tabs, notK, codes, bind, want, run⟩ := F w mg fa _ y inn G.T.g hmg (fun z hz => by
    obtain ⟨e, he, rfl⟩ := List.mem_map.mp hz
    exact G.T.tab e he)
  exact caller_runsT inn G.T.g G.T.b G.T.builtins G.T.nolimit gens tabs notK codes G.T.bmain obj inz (Nat.le_trans many small) room run bind fun H hH seq => want H a ns many hH seq
end XJ
end
section
set_option Elab.async false
set_option linter.all false
set_option maxRecDepth 100000
set_option maxHeartbeats 8000000
namespace XJ
open PySem PySem.W L2 XK
/-- a def at an address, as the row tells it -/
structure FnF (K : Frag) (x qual : Str) (st : Stmt) (f : Addr) : Prop where
  ex : ∃ (oc : Value) (od : Option Addr) (kV doc pm : Value) (an : Option Addr) (cdv ct : Value) (osl : Array (Option Value)), K.lookup f = some ⟨oc, od, .func (fnOf x qual (defArgs st) (defBody st) (defScope st) .none kV doc pm an cdv ct), osl⟩ ∧ codeIn K cdv qual = true
theorem fnF_mk {K : Frag} {x qual : Str} {st : Stmt} {f : Addr} {oc : Value} {od : Option Addr} {kV doc pm : Value} {an : Option Addr} {cdv ct : Value} {osl : Array (Option Value)} (l : K.lookup f = some ⟨oc, od, .func (fnOf x qual (defArgs st) (defBody st) (defScope st) .none kV doc pm an cdv ct), osl⟩) (c : codeIn K cdv qual = true) : FnF K x qual st f :=
  ⟨⟨oc, od, kV, doc, pm, an, cdv, ct, osl, l, c⟩⟩
theorem FnF.get {K : Frag} {x qual : Str} {st : Stmt} {f : Addr} (F : FnF K x qual st f) (k : keepIn K (.ref f) = true) : ∃ fd, Fun K x qual st f fd := by
  obtain ⟨oc, od, kV, doc, pm, an, cdv, ct, osl, l, c⟩ := F.ex
  exact ⟨_, fun_mk l c k⟩
/-- the same, its code object told -/
structure FnFC (K : Frag) (x qual : Str) (st : Stmt) (f c : Addr) : Prop where
  ex : ∃ (oc : Value) (od : Option Addr) (kV doc pm : Value) (an : Option Addr) (ct : Value) (osl : Array (Option Value)), K.lookup f = some ⟨oc, od, .func (fnOf x qual (defArgs st) (defBody st) (defScope st) .none kV doc pm an (.ref c) ct), osl⟩ ∧ codeIn K (.ref c) qual = true
theorem fnFC_mk {K : Frag} {x qual : Str} {st : Stmt} {f c : Addr} {oc : Value} {od : Option Addr} {kV doc pm : Value} {an : Option Addr} {ct : Value} {osl : Array (Option Value)} (l : K.lookup f = some ⟨oc, od, .func (fnOf x qual (defArgs st) (defBody st) (defScope st) .none kV doc pm an (.ref c) ct), osl⟩) (d : codeIn K (.ref c) qual = true) : FnFC K x qual st f c :=
  ⟨⟨oc, od, kV, doc, pm, an, ct, osl, l, d⟩⟩
theorem propF_mk {K : Frag} {C p g : Addr} {nm : Str} {rest : List Value} (a : findIn K (.ref C) nm = some (some (.ref p))) (b : specialIn K (.ref p) "__get__" = some (some (.builtin "property.__get__"))) (c : takesIn K (.ref p) = some true) (d : recIn K p "property" = some (.ref g :: rest)) : PropOf K C nm p g := ⟨a, b, c, ⟨rest, d⟩⟩
end XJ
namespace LA
open PySem PySem.W L2 XS XT XK XO XL LM LamX ClX
/-- the tables of three code objects are unlike, and none is written down -/
def tabs3 (K : Frag) (c d e : Addr) : Bool := XJ.tabsApart K c d && XJ.tabsApart K c e && XJ.tabsApart K d e
theorem apart3 {K : Frag} {c d e : Addr} (h : tabs3 K c d e = true) : ∃ e1 d1 vs s1 e2 d2 us s2 e3 d3 ws s3 p r q, K.lookup c = some ⟨e1, d1, .fields vs, s1⟩ ∧ K.lookup d = some ⟨e2, d2, .fields us, s2⟩ ∧ K.lookup e = some ⟨e3, d3, .fields ws, s3⟩ ∧ vs[11]? = some (.ref p) ∧ us[11]? = some (.ref r) ∧ ws[11]? = some (.ref q) ∧ p ≠ r ∧ p ≠ q ∧ r ≠ q ∧ K.lookup p = none ∧ K.lookup r = none ∧ K.lookup q = none := by
  unfold tabs3 at h
  rw [Bool.and_eq_true, Bool.and_eq_true] at h
  obtain ⟨⟨h1, h2⟩, h3⟩ := h
  obtain ⟨e1, d1, vs, s1, e2, d2, us, s2, p, r, a1, a2, a3, a4, a5, a6, a7⟩ := XJ.apart h1
  obtain ⟨e1', d1', vs', s1', e3, d3, ws, s3, p', q, b1, b2, b3, b4, b5, b6, b7⟩ := XJ.apart h2
  obtain ⟨e2', d2', us', s2', e3', d3', ws', s3', r', q', c1, c2, c3, c4, c5, c6, c7⟩ := XJ.apart h3
  rw [a1] at b1
  cases b1
  rw [a2] at c1
  cases c1
  rw [b2] at c2
  cases c2
  rw [a3] at b3
  cases b3
  rw [a4] at c3
  cases c3
  rw [b4] at c4
  cases c4
  exact ⟨e1, d1, vs, s1, e2, d2, us, s2, e3, d3, ws, s3, p, r, q, a1, a2, b2, a3, a4, b4, a5, b5, c5, a6, a7, b7⟩
theorem funV_mk {K : Frag} {f D : Addr} {oc : Value} {od : Option Addr} {doc pm : Value} {an : Option Addr} {cdv ct : Value} {osl : Array (Option Value)} (l : K.lookup f = some ⟨oc, od, .func (fnOf "__init__" "LongText.__init__" (defArgs sLI) (defBody sLI) (defScope sLI) .none (.ref D) doc pm an cdv ct), osl⟩) (c : codeIn K cdv "LongText.__init__" = true) (d : nsIn K D "_blocks" = some (some .none)) : FunV K f D :=
  ⟨⟨oc, od, doc, pm, an, cdv, ct, osl, l, c⟩, d⟩
theorem cmet_mk {K : Frag} {C p g : Addr} {mc : Value} {m : Str} {rest : List Value} (a : findCls K (.ref C) mc m = some (.get (.builtin "classmethod.__get__") (.ref p) .none (.ref C))) (b : recIn K p "classmethod" = some (.ref g :: rest)) (c : fnIn K g = true) : CMet K C mc m p g := ⟨a, ⟨rest, b⟩, c⟩
/-! ### own errors upon the built-in ones -/
abbrev bV : List Value := [.type "ValueError", .type "Exception", .type "BaseException", .type "object"]
abbrev bL : List Value := [.type "LookupError", .type "Exception", .type "BaseException", .type "object"]
abbrev bO : List Value := [.type "OverflowError", .type "ArithmeticError", .type "Exception", .type "BaseException", .type "object"]
/-- the class's own mro: itself, then the built-in one's -/
def bareOver (K : Frag) (C : Addr) (bm : List Value) : Bool := match clsIn K C with
  | some cd => cd.mro == .ref C :: bm && cd.hasDict
  | none => false
theorem bare_cls {K : Frag} {C : Addr} {bm : List Value} (h : bareOver K C bm = true) : ∃ cd, clsIn K C = some cd ∧ cd.mro = .ref C :: bm ∧ cd.hasDict = true := by
  unfold bareOver at h
  split at h
  · rename_i cd e
    rw [Bool.and_eq_true] at h
    exact ⟨cd, e, eq_of_beq h.1, h.2⟩
  · cases h
/-- what the written part says of an own exception class -/
structure ClsF (K : Frag) (x : Str) (newId : String) (bm : List Value) (C : Addr) : Prop where
  ns : nsIn K mainGlobals x = some (some (.ref C))
  bare : bareOver K C bm = true
  ini : excInitIn K C bm newId = true
  sa : findIn K (.ref C) "__setattr__" = some (some (.builtin "object.__setattr__"))
  ga : findIn K (.ref C) "__getattribute__" = some (some (.builtin "BaseException.__getattribute__"))
  gg : findIn K (.ref C) "__getattr__" = some none
  exC : subIn K (.ref C) (.type "BaseException") = some true
  kC : keepIn K (.ref C) = true
  hd : hasDictIn K C = true
  ac : findIn K (.ref C) "__class__" = some (some (.builtin "object.__class__"))
  gn : specialIn K (.builtin "object.__class__") "__get__" = some (some (.builtin "getset_descriptor.__get__"))
  tk : takesIn K (.builtin "object.__class__") = some true
  mo : mroIn K C (.type "object") = some true
  ty : typeIn K (.ref C) = some (.type "type")
theorem ClsF.xt {K : Frag} {x : Str} {B newId initId : String} {bm : List Value} {C : Addr} (F : ClsF K x newId bm C) (E : ExcBaseFacts B newId initId bm) (S : StoreFacts B bm "object.__setattr__" "object") : XT K C := by
  obtain ⟨cd, hc, hm, hd⟩ := bare_cls F.bare
  refine ⟨⟨B, newId, initId, bm, E, F.ini⟩, ⟨cd, hc, ?_, ?_, fun self => ?_, hd⟩, F.sa, F.ga, F.gg, F.exC, F.kC, F.hd, F.ac, F.gn, F.tk, F.mo⟩
  · rw [hm]
    rfl
  · rw [hm, List.contains_cons, S.hasOwner, Bool.or_true]
  · rw [hm, refuseLoop_ref]
    exact S.passes self
/-- what it says of an __init__ -/
structure InitF (K : Frag) (C : Addr) (qn : Str) (st : Stmt) : Prop where
  ex : ∃ (fI : Addr) (oc : Value) (od : Option Addr) (doc pm : Value) (an : Option Addr) (cdv ct : Value) (osl : Array (Option Value)), findIn K (.ref C) "__init__" = some (some (.ref fI)) ∧ typeIn K (.ref fI) = some (.type "function") ∧
    K.lookup fI = some ⟨oc, od, .func (fnOf "__init__" qn (defArgs st) (defBody st) (defScope st) .none .none doc pm an cdv ct), osl⟩ ∧ codeIn K cdv qn = true
theorem initF_mk {K : Frag} {C fI : Addr} {qn : Str} {st : Stmt} {oc : Value} {od : Option Addr} {doc pm : Value} {an : Option Addr} {cdv ct : Value} {osl : Array (Option Value)} (a : findIn K (.ref C) "__init__" = some (some (.ref fI))) (b : typeIn K (.ref fI) = some (.type "function"))
    (c : K.lookup fI = some ⟨oc, od, .func (fnOf "__init__" qn (defArgs st) (defBody st) (defScope st) .none .none doc pm an cdv ct), osl⟩) (d : codeIn K cdv qn = true) : InitF K C qn st := ⟨⟨fI, oc, od, doc, pm, an, cdv, ct, osl, a, b, c, d⟩⟩
theorem xi_DB {K : Frag} {C : Addr} (F : InitF K C "InvalidBlock.__init__" (cb 6 0)) (no : findIn K (.ref C) "index" = some none) : XI K C "index" := by
  obtain ⟨fI, oc, od, doc, pm, an, cdv, ct, osl, a, b, c, d⟩ := F.ex
  exact ⟨no, by decide, fI, _, oc, od, doc, pm, an, cdv, ct, osl, _, _, _, _, _, _, a, b, c, d, fun s x v => .of_eq rfl, fun s x v => .of_eq rfl⟩
theorem xi_DT {K : Frag} {C : Addr} (F : InitF K C "InvalidText.__init__" (cb 5 0)) (no : findIn K (.ref C) "value" = some none) : XI K C "value" := by
  obtain ⟨fI, oc, od, doc, pm, an, cdv, ct, osl, a, b, c, d⟩ := F.ex
  exact ⟨no, by decide, fI, _, oc, od, doc, pm, an, cdv, ct, osl, _, _, _, _, _, _, a, b, c, d, fun s x v => .of_eq rfl, fun s x v => .of_eq rfl⟩
theorem xi_DM {K : Frag} {C : Addr} (F : InitF K C "TooMany.__init__" (cb 8 0)) (no : findIn K (.ref C) "limit" = some none) : XI K C "limit" := by
  obtain ⟨fI, oc, od, doc, pm, an, cdv, ct, osl, a, b, c, d⟩ := F.ex
  exact ⟨no, by decide, fI, _, oc, od, doc, pm, an, cdv, ct, osl, _, _, _, _, _, _, a, b, c, d, fun s x v => .of_eq rfl, fun s x v => .of_eq rfl⟩
theorem xi_DR {K : Frag} {C : Addr} (F : InitF K C "OutOfRange.__init__" (cb 7 0)) (no : findIn K (.ref C) "value" = some none) : XI K C "value" := by
  obtain ⟨fI, oc, od, doc, pm, an, cdv, ct, osl, a, b, c, d⟩ := F.ex
  exact ⟨no, by decide, fI, _, oc, od, doc, pm, an, cdv, ct, osl, _, _, _, _, _, _, a, b, c, d, fun s x v => .of_eq rfl, fun s x v => .of_eq rfl⟩

theorem all_mk {l : PySem.W.OpenLaw} {w : World} {K : Frag} {h : Heap} {mg : Str → Option Value} {fa a_pen a_draw a_pick a_gr a_sgn a_isr a_inl a_few a_row a_rws a_any a_lb a_lm a_ls a_ll a_td a_ibl a_so a_ca a_ap a_le a_li a_tx a_ck a_ii a_cn a_bk a_lo a_pi a_cu a_wo a_lx a_nu a_mr a_as a_law c_mr c_as c_law a_mA a_mN a_mB a_mO a_mL a_mP C fI D pN pB pO DB DT DM DR : Addr} {t0 t1 t2 t3 t4 t5 t6 : Tok} (X : K.In h) (G : h.Ns mainGlobals mg) (hfa : mg "law" = some (.ref fa)) (tbM : XJ.TabAt h mg "_law_many_right") (tbA : XJ.TabAt h mg "_law_asked_right") (tbL : XJ.TabAt h mg "law")
    (g_pen : nsIn K mainGlobals "_law_pen" = some (some (.ref a_pen)))
    (f_pen : XJ.FnF K "_law_pen" "_law_pen" sPen a_pen)
    (k_pen : keepIn K (.ref a_pen) = true)
    (g_draw : nsIn K mainGlobals "_law_draw" = some (some (.ref a_draw)))
    (f_draw : XJ.FnF K "_law_draw" "_law_draw" sDraw a_draw)
    (k_draw : keepIn K (.ref a_draw) = true)
    (g_pick : nsIn K mainGlobals "_law_pick" = some (some (.ref a_pick)))
    (f_pick : XJ.FnF K "_law_pick" "_law_pick" sPick a_pick)
    (k_pick : keepIn K (.ref a_pick) = true)
    (g_gr : nsIn K mainGlobals "_law_great" = some (some (.ref a_gr)))
    (f_gr : XJ.FnF K "_law_great" "_law_great" sGreat a_gr)
    (k_gr : keepIn K (.ref a_gr) = true)
    (g_sgn : nsIn K mainGlobals "_law_signs" = some (some (.ref a_sgn)))
    (f_sgn : XJ.FnF K "_law_signs" "_law_signs" sSigns a_sgn)
    (k_sgn : keepIn K (.ref a_sgn) = true)
    (g_isr : nsIn K mainGlobals "_law_is_row" = some (some (.ref a_isr)))
    (f_isr : XJ.FnF K "_law_is_row" "_law_is_row" sIsRow a_isr)
    (k_isr : keepIn K (.ref a_isr) = true)
    (g_inl : nsIn K mainGlobals "_law_is_number" = some (some (.ref a_inl)))
    (f_inl : XJ.FnF K "_law_is_number" "_law_is_number" sIsNumL a_inl)
    (k_inl : keepIn K (.ref a_inl) = true)
    (g_few : nsIn K mainGlobals "_law_few" = some (some (.ref a_few)))
    (f_few : XJ.FnF K "_law_few" "_law_few" sFew a_few)
    (k_few : keepIn K (.ref a_few) = true)
    (g_row : nsIn K mainGlobals "_law_row" = some (some (.ref a_row)))
    (f_row : XJ.FnF K "_law_row" "_law_row" sRow a_row)
    (k_row : keepIn K (.ref a_row) = true)
    (g_rws : nsIn K mainGlobals "_law_rows" = some (some (.ref a_rws)))
    (f_rws : XJ.FnF K "_law_rows" "_law_rows" sRows a_rws)
    (k_rws : keepIn K (.ref a_rws) = true)
    (g_any : nsIn K mainGlobals "_law_any_value" = some (some (.ref a_any)))
    (f_any : XJ.FnF K "_law_any_value" "_law_any_value" sAny a_any)
    (k_any : keepIn K (.ref a_any) = true)
    (g_lb : nsIn K mainGlobals "_law_lblocks" = some (some (.ref a_lb)))
    (f_lb : XJ.FnF K "_law_lblocks" "_law_lblocks" sLB a_lb)
    (k_lb : keepIn K (.ref a_lb) = true)
    (g_lm : nsIn K mainGlobals "_law_lmade" = some (some (.ref a_lm)))
    (f_lm : XJ.FnF K "_law_lmade" "_law_lmade" sLM a_lm)
    (k_lm : keepIn K (.ref a_lm) = true)
    (g_ls : nsIn K mainGlobals "_law_lsize" = some (some (.ref a_ls)))
    (f_ls : XJ.FnF K "_law_lsize" "_law_lsize" sLS a_ls)
    (k_ls : keepIn K (.ref a_ls) = true)
    (g_ll : nsIn K mainGlobals "_law_lline" = some (some (.ref a_ll)))
    (f_ll : XJ.FnF K "_law_lline" "_law_lline" sLL a_ll)
    (k_ll : keepIn K (.ref a_ll) = true)
    (g_td : nsIn K mainGlobals "_law_told" = some (some (.ref a_td)))
    (f_td : XJ.FnF K "_law_told" "_law_told" sTold a_td)
    (k_td : keepIn K (.ref a_td) = true)
    (g_ibl : nsIn K mainGlobals "_law_is_block" = some (some (.ref a_ibl)))
    (f_ibl : XJ.FnF K "_law_is_block" "_law_is_block" sIsBlkL a_ibl)
    (k_ibl : keepIn K (.ref a_ibl) = true)
    (g_so : nsIn K mainGlobals "_law_some" = some (some (.ref a_so)))
    (f_so : XJ.FnF K "_law_some" "_law_some" sSome a_so)
    (k_so : keepIn K (.ref a_so) = true)
    (g_ca : nsIn K mainGlobals "_law_called" = some (some (.ref a_ca)))
    (f_ca : XJ.FnF K "_law_called" "_law_called" sCalled a_ca)
    (k_ca : keepIn K (.ref a_ca) = true)
    (g_ap : nsIn K mainGlobals "_law_is_apart" = some (some (.ref a_ap)))
    (f_ap : XJ.FnF K "_law_is_apart" "_law_is_apart" sApart a_ap)
    (k_ap : keepIn K (.ref a_ap) = true)
    (g_le : nsIn K mainGlobals "is_letter" = some (some (.ref a_le)))
    (f_le : XJ.FnF K "is_letter" "is_letter" sLetter a_le)
    (k_le : keepIn K (.ref a_le) = true)
    (g_li : nsIn K mainGlobals "is_line" = some (some (.ref a_li)))
    (f_li : XJ.FnF K "is_line" "is_line" sLine a_li)
    (k_li : keepIn K (.ref a_li) = true)
    (g_tx : nsIn K mainGlobals "is_text" = some (some (.ref a_tx)))
    (f_tx : XJ.FnF K "is_text" "is_text" sIsText a_tx)
    (k_tx : keepIn K (.ref a_tx) = true)
    (g_ck : nsIn K mainGlobals "check_text" = some (some (.ref a_ck)))
    (f_ck : XJ.FnF K "check_text" "check_text" sChkT a_ck)
    (k_ck : keepIn K (.ref a_ck) = true)
    (g_ii : nsIn K mainGlobals "is_integer" = some (some (.ref a_ii)))
    (f_ii : XJ.FnF K "is_integer" "is_integer" sIsInt a_ii)
    (k_ii : keepIn K (.ref a_ii) = true)
    (g_cn : nsIn K mainGlobals "is_counting" = some (some (.ref a_cn)))
    (f_cn : XJ.FnF K "is_counting" "is_counting" sCounting a_cn)
    (k_cn : keepIn K (.ref a_cn) = true)
    (g_bk : nsIn K mainGlobals "is_block" = some (some (.ref a_bk)))
    (f_bk : XJ.FnF K "is_block" "is_block" sIsBlock a_bk)
    (k_bk : keepIn K (.ref a_bk) = true)
    (g_lo : nsIn K mainGlobals "length_of" = some (some (.ref a_lo)))
    (f_lo : XJ.FnF K "length_of" "length_of" sLenOf a_lo)
    (k_lo : keepIn K (.ref a_lo) = true)
    (g_pi : nsIn K mainGlobals "piece" = some (some (.ref a_pi)))
    (f_pi : XJ.FnF K "piece" "piece" sPiece a_pi)
    (k_pi : keepIn K (.ref a_pi) = true)
    (g_cu : nsIn K mainGlobals "cut" = some (some (.ref a_cu)))
    (f_cu : XJ.FnF K "cut" "cut" sCut a_cu)
    (k_cu : keepIn K (.ref a_cu) = true)
    (g_wo : nsIn K mainGlobals "written_out" = some (some (.ref a_wo)))
    (f_wo : XJ.FnF K "written_out" "written_out" sWrit a_wo)
    (k_wo : keepIn K (.ref a_wo) = true)
    (g_lx : nsIn K mainGlobals "line_at_index" = some (some (.ref a_lx)))
    (f_lx : XJ.FnF K "line_at_index" "line_at_index" sLineI a_lx)
    (k_lx : keepIn K (.ref a_lx) = true)
    (g_nu : nsIn K mainGlobals "is_number" = some (some (.ref a_nu)))
    (f_nu : XJ.FnF K "is_number" "is_number" sIsNum a_nu)
    (k_nu : keepIn K (.ref a_nu) = true)
    (g_mr : nsIn K mainGlobals "_law_many_right" = some (some (.ref a_mr)))
    (f_mr : XJ.FnFC K "_law_many_right" "_law_many_right" sMany a_mr c_mr)
    (k_mr : keepIn K (.ref a_mr) = true)
    (g_as : nsIn K mainGlobals "_law_asked_right" = some (some (.ref a_as)))
    (f_as : XJ.FnFC K "_law_asked_right" "_law_asked_right" sAsked a_as c_as)
    (k_as : keepIn K (.ref a_as) = true)
    (g_law : nsIn K mainGlobals "law" = some (some (.ref a_law)))
    (f_law : XJ.FnFC K "law" "law" sLaw a_law c_law)
    (k_law : keepIn K (.ref a_law) = true)
    (apt : tabs3 K c_mr c_as c_law = true)
    (gC : nsIn K mainGlobals "LongText" = some (some (.ref C)))
    (clC : Cls K C)
    (mkC : Mk K C fI)
    (ini : FunV K fI D)
    (noC : NoAttr K C "_blocks")
    (atA : findIn K (.ref C) "__add__" = some (some (.ref a_mA)))
    (fnA : isFn K (.ref a_mA) = true)
    (sfC : selfFirst K C = true)
    (prN : PropOf K C "length" pN a_mN)
    (prB : PropOf K C "blocks" pB a_mB)
    (meL : Meth K C "line_at" a_mL)
    (meP : Meth K C "part" a_mP)
    (rdC : readsIn K C (.type "type") = true)
    (gaC : specialIn K (.ref C) "__getattribute__" = some (some (.builtin "type.__getattribute__")))
    (ofC : CMet K C (.type "type") "of" pO a_mO)
    (f_mA : XJ.FnF K "__add__" "LongText.__add__" sLadd a_mA)
    (k_mA : keepIn K (.ref a_mA) = true)
    (f_mN : XJ.FnF K "length" "LongText.length" sLlen a_mN)
    (k_mN : keepIn K (.ref a_mN) = true)
    (f_mB : XJ.FnF K "blocks" "LongText.blocks" sLblk a_mB)
    (k_mB : keepIn K (.ref a_mB) = true)
    (f_mO : XJ.FnF K "of" "LongText.of" sLof a_mO)
    (k_mO : keepIn K (.ref a_mO) = true)
    (f_mL : XJ.FnF K "line_at" "LongText.line_at" sLat a_mL)
    (k_mL : keepIn K (.ref a_mL) = true)
    (f_mP : XJ.FnF K "part" "LongText.part" sLpart a_mP)
    (k_mP : keepIn K (.ref a_mP) = true)
    (x_DB : ClsF K "InvalidBlock" "ValueError.__new__" bV DB)
    (i_DB : InitF K DB "InvalidBlock.__init__" (cb 6 0))
    (n_DB : findIn K (.ref DB) "index" = some none)
    (x_DT : ClsF K "InvalidText" "ValueError.__new__" bV DT)
    (i_DT : InitF K DT "InvalidText.__init__" (cb 5 0))
    (n_DT : findIn K (.ref DT) "value" = some none)
    (x_DM : ClsF K "TooMany" "OverflowError.__new__" bO DM)
    (i_DM : InitF K DM "TooMany.__init__" (cb 8 0))
    (n_DM : findIn K (.ref DM) "limit" = some none)
    (x_DR : ClsF K "OutOfRange" "LookupError.__new__" bL DR)
    (i_DR : InitF K DR "OutOfRange.__init__" (cb 7 0))
    (n_DR : findIn K (.ref DR) "value" = some none)
    (e_bb : exmOne K (.ref DB) (.ref DB) = some true)
    (e_tb : exmOne K (.ref DT) (.ref DB) = some false)
    (e_tt : exmOne K (.ref DT) (.ref DT) = some true)
    (e_mb : exmOne K (.ref DM) (.ref DB) = some false)
    (e_mt : exmOne K (.ref DM) (.ref DT) = some false)
    (e_mm : exmOne K (.ref DM) (.ref DM) = some true)
    (e_rb : exmOne K (.ref DR) (.ref DB) = some false)
    (e_rt : exmOne K (.ref DR) (.ref DT) = some false)
    (e_rm : exmOne K (.ref DR) (.ref DM) = some false)
    (e_rr : exmOne K (.ref DR) (.ref DR) = some true)
    (e_kB : kitOne K (.ref DB) (.type "ValueError") = some true)
    (e_kT : kitOne K (.ref DT) (.type "ValueError") = some true)
    (e_kM : kitOne K (.ref DM) (.type "OverflowError") = some true)
    (e_kR : kitOne K (.ref DR) (.type "LookupError") = some true)
    (z_len : nsIn K mainGlobals "len" = some none)
    (z_int : nsIn K mainGlobals "int" = some none)
    (z_list : nsIn K mainGlobals "list" = some none)
    (z_abs : nsIn K mainGlobals "abs" = some none)
    (z_range : nsIn K mainGlobals "range" = some none)
    (z_set : nsIn K mainGlobals "set" = some none)
    (z_all : nsIn K mainGlobals "all" = some none)
    (z_ord : nsIn K mainGlobals "ord" = some none)
    (z_isinstance : nsIn K mainGlobals "isinstance" = some none)
    (z_str : nsIn K mainGlobals "str" = some none)
    (z_sum : nsIn K mainGlobals "sum" = some none)
    (z_min : nsIn K mainGlobals "min" = some none)
    (z_max : nsIn K mainGlobals "max" = some none)
    (z_tuple : nsIn K mainGlobals "tuple" = some none)
    (z_enumerate : nsIn K mainGlobals "enumerate" = some none)
    (z_bool : nsIn K mainGlobals "bool" = some none)
    (z_repr : nsIn K mainGlobals "repr" = some none)
    (z_ValueError : nsIn K mainGlobals "ValueError" = some none)
    (z_OverflowError : nsIn K mainGlobals "OverflowError" = some none)
    (z_LookupError : nsIn K mainGlobals "LookupError" = some none)
    (y0 : nsIn K mainGlobals "FIRST_LETTER" = some (some (.int 32 t0)))
    (y1 : nsIn K mainGlobals "LAST_LETTER" = some (some (.int 126 t1)))
    (y2 : nsIn K mainGlobals "PERCENT_SIGN" = some (some (.int 37 t2)))
    (y3 : nsIn K mainGlobals "MAX_BLOCKS" = some (some (.int 10 t3)))
    (y4 : nsIn K mainGlobals "MAX_LINES" = some (some (.int 4 t4)))
    (y5 : nsIn K mainGlobals "MAX_TIMES" = some (some (.int (10 ^ 30) t5)))
    (y6 : nsIn K mainGlobals "MOST_LINES" = some (some (.int 1000 t6))) :
    XK.CallerAtT l w K 20 63 "_law_script" mg fa h := by
  have e := hfa.symm.trans (mg_of X G g_law)
  cases e
  obtain ⟨d_pen, F_pen⟩ := f_pen.get k_pen
  have b_pen := F_pen.binds (ps := ["_law_script"]) fun _ _ _ _ _ _ us hl => match us, hl with | [_], _ => rfl
  obtain ⟨d_draw, F_draw⟩ := f_draw.get k_draw
  have b_draw := F_draw.binds (ps := ["_law_pen_here", "_law_span"]) fun _ _ _ _ _ _ us hl => match us, hl with | [_, _], _ => rfl
  obtain ⟨d_pick, F_pick⟩ := f_pick.get k_pick
  have b_pick := F_pick.binds (ps := ["_law_pen_here", "_law_options"]) fun _ _ _ _ _ _ us hl => match us, hl with | [_, _], _ => rfl
  obtain ⟨d_gr, F_gr⟩ := f_gr.get k_gr
  have b_gr := F_gr.binds (ps := ["_law_pen_here", "_law_digits"]) fun _ _ _ _ _ _ us hl => match us, hl with | [_, _], _ => rfl
  obtain ⟨d_sgn, F_sgn⟩ := f_sgn.get k_sgn
  have b_sgn := F_sgn.binds (ps := ([] : List Str)) fun _ _ _ _ _ _ us hl => match us, hl with | [], _ => rfl
  obtain ⟨d_isr, F_isr⟩ := f_isr.get k_isr
  have b_isr := F_isr.binds (ps := ["_law_thing"]) fun _ _ _ _ _ _ us hl => match us, hl with | [_], _ => rfl
  obtain ⟨d_inl, F_inl⟩ := f_inl.get k_inl
  have b_inl := F_inl.binds (ps := ["_law_thing", "_law_low", "_law_high"]) fun _ _ _ _ _ _ us hl => match us, hl with | [_, _, _], _ => rfl
  obtain ⟨d_few, F_few⟩ := f_few.get k_few
  have b_few := F_few.binds (ps := ["_law_pen_here"]) fun _ _ _ _ _ _ us hl => match us, hl with | [_], _ => rfl
  obtain ⟨d_row, F_row⟩ := f_row.get k_row
  have b_row := F_row.binds (ps := ["_law_pen_here", "_law_signs_here", "_law_least", "_law_most_letters"]) fun _ _ _ _ _ _ us hl => match us, hl with | [_, _, _, _], _ => rfl
  obtain ⟨d_rws, F_rws⟩ := f_rws.get k_rws
  have b_rws := F_rws.binds (ps := ["_law_pen_here", "_law_signs_here", "_law_most_rows", "_law_most_letters"]) fun _ _ _ _ _ _ us hl => match us, hl with | [_, _, _, _], _ => rfl
  obtain ⟨d_any, F_any⟩ := f_any.get k_any
  have b_any := F_any.binds (ps := ["_law_pen_here"]) fun _ _ _ _ _ _ us hl => match us, hl with | [_], _ => rfl
  obtain ⟨d_lb, F_lb⟩ := f_lb.get k_lb
  have b_lb := F_lb.binds (ps := ["_law_pen_here", "_law_signs_here", "_law_most_blocks", "_law_tops"]) fun _ _ _ _ _ _ us hl => match us, hl with | [_, _, _, _], _ => rfl
  obtain ⟨d_lm, F_lm⟩ := f_lm.get k_lm
  have b_lm := F_lm.binds (ps := ["_law_blocks"]) fun _ _ _ _ _ _ us hl => match us, hl with | [_], _ => rfl
  obtain ⟨d_ls, F_ls⟩ := f_ls.get k_ls
  have b_ls := F_ls.binds (ps := ["_law_blocks"]) fun _ _ _ _ _ _ us hl => match us, hl with | [_], _ => rfl
  obtain ⟨d_ll, F_ll⟩ := f_ll.get k_ll
  have b_ll := F_ll.binds (ps := ["_law_blocks", "_law_slot"]) fun _ _ _ _ _ _ us hl => match us, hl with | [_, _], _ => rfl
  obtain ⟨d_td, F_td⟩ := f_td.get k_td
  have b_td := F_td.binds (ps := ["_law_call"]) fun _ _ _ _ _ _ us hl => match us, hl with | [_], _ => rfl
  obtain ⟨d_ibl, F_ibl⟩ := f_ibl.get k_ibl
  have b_ibl := F_ibl.binds (ps := ["_law_thing"]) fun _ _ _ _ _ _ us hl => match us, hl with | [_], _ => rfl
  obtain ⟨d_so, F_so⟩ := f_so.get k_so
  have b_so := F_so.binds (ps := ["_law_pen_here", "_law_signs_here"]) fun _ _ _ _ _ _ us hl => match us, hl with | [_, _], _ => rfl
  obtain ⟨d_ca, F_ca⟩ := f_ca.get k_ca
  have b_ca := F_ca.binds (ps := ["_law_some_here"]) fun _ _ _ _ _ _ us hl => match us, hl with | [_], _ => rfl
  obtain ⟨d_ap, F_ap⟩ := f_ap.get k_ap
  have b_ap := F_ap.binds (ps := ["_law_pen_here", "_law_signs_here"]) fun _ _ _ _ _ _ us hl => match us, hl with | [_, _], _ => rfl
  obtain ⟨d_le, F_le⟩ := f_le.get k_le
  have b_le := F_le.binds (ps := ["character"]) fun _ _ _ _ _ _ us hl => match us, hl with | [_], _ => rfl
  obtain ⟨d_li, F_li⟩ := f_li.get k_li
  have b_li := F_li.binds (ps := ["value"]) fun _ _ _ _ _ _ us hl => match us, hl with | [_], _ => rfl
  obtain ⟨d_tx, F_tx⟩ := f_tx.get k_tx
  have b_tx := F_tx.binds (ps := ["value"]) fun _ _ _ _ _ _ us hl => match us, hl with | [_], _ => rfl
  obtain ⟨d_ck, F_ck⟩ := f_ck.get k_ck
  have b_ck := F_ck.binds (ps := ["value"]) fun _ _ _ _ _ _ us hl => match us, hl with | [_], _ => rfl
  obtain ⟨d_ii, F_ii⟩ := f_ii.get k_ii
  have b_ii := F_ii.binds (ps := ["value"]) fun _ _ _ _ _ _ us hl => match us, hl with | [_], _ => rfl
  obtain ⟨d_cn, F_cn⟩ := f_cn.get k_cn
  have b_cn := F_cn.binds (ps := ["value"]) fun _ _ _ _ _ _ us hl => match us, hl with | [_], _ => rfl
  obtain ⟨d_bk, F_bk⟩ := f_bk.get k_bk
  have b_bk := F_bk.binds (ps := ["value"]) fun _ _ _ _ _ _ us hl => match us, hl with | [_], _ => rfl
  obtain ⟨d_lo, F_lo⟩ := f_lo.get k_lo
  have b_lo := F_lo.binds (ps := ["blocks"]) fun _ _ _ _ _ _ us hl => match us, hl with | [_], _ => rfl
  obtain ⟨d_pi, F_pi⟩ := f_pi.get k_pi
  have b_pi := F_pi.binds (ps := ["lines", "low", "high"]) fun _ _ _ _ _ _ us hl => match us, hl with | [_, _, _], _ => rfl
  obtain ⟨d_cu, F_cu⟩ := f_cu.get k_cu
  have b_cu := F_cu.binds (ps := ["blocks", "low", "high"]) fun _ _ _ _ _ _ us hl => match us, hl with | [_, _, _], _ => rfl
  obtain ⟨d_wo, F_wo⟩ := f_wo.get k_wo
  have b_wo := F_wo.binds (ps := ["blocks"]) fun _ _ _ _ _ _ us hl => match us, hl with | [_], _ => rfl
  obtain ⟨d_lx, F_lx⟩ := f_lx.get k_lx
  have b_lx := F_lx.binds (ps := ["blocks", "index"]) fun _ _ _ _ _ _ us hl => match us, hl with | [_, _], _ => rfl
  obtain ⟨d_nu, F_nu⟩ := f_nu.get k_nu
  have b_nu := F_nu.binds (ps := ["value", "least", "greatest"]) fun _ _ _ _ _ _ us hl => match us, hl with | [_, _, _], _ => rfl
  have bs_sgn : ∀ s, BindsTo s d_sgn ⟨[], []⟩ [] := by
    obtain ⟨oc, od, kV, doc, pm, an, cdv, ct, osl, rfl, _, _⟩ := F_sgn.ex
    exact fun s => .of_eq rfl
  obtain ⟨d_mA, F_mA⟩ := f_mA.get k_mA
  have b_mA := F_mA.binds (ps := ["self", "other"]) fun _ _ _ _ _ _ us hl => match us, hl with | [_, _], _ => rfl
  obtain ⟨d_mN, F_mN⟩ := f_mN.get k_mN
  have b_mN := F_mN.binds (ps := ["self"]) fun _ _ _ _ _ _ us hl => match us, hl with | [_], _ => rfl
  obtain ⟨d_mB, F_mB⟩ := f_mB.get k_mB
  have b_mB := F_mB.binds (ps := ["self"]) fun _ _ _ _ _ _ us hl => match us, hl with | [_], _ => rfl
  obtain ⟨d_mO, F_mO⟩ := f_mO.get k_mO
  have b_mO := F_mO.binds (ps := ["cls", "text"]) fun _ _ _ _ _ _ us hl => match us, hl with | [_, _], _ => rfl
  obtain ⟨d_mL, F_mL⟩ := f_mL.get k_mL
  have b_mL := F_mL.binds (ps := ["self", "number"]) fun _ _ _ _ _ _ us hl => match us, hl with | [_, _], _ => rfl
  obtain ⟨d_mP, F_mP⟩ := f_mP.get k_mP
  have b_mP := F_mP.binds (ps := ["self", "first", "last"]) fun _ _ _ _ _ _ us hl => match us, hl with | [_, _, _], _ => rfl
  obtain ⟨oc_mr, od_mr, kV_mr, dc_mr, pm_mr, an_mr, ct_mr, sl_mr, l_mr, cd_mr⟩ := f_mr.ex
  have FC_mr : FunC K "_law_many_right" "_law_many_right" sMany a_mr (fnOf "_law_many_right" "_law_many_right" (defArgs sMany) (defBody sMany) (defScope sMany) .none kV_mr dc_mr pm_mr an_mr (.ref c_mr) ct_mr) c_mr := ⟨⟨oc_mr, od_mr, kV_mr, dc_mr, pm_mr, an_mr, ct_mr, sl_mr, rfl, l_mr, cd_mr⟩⟩
  have b_mr := (fun_mk (st := sMany) l_mr cd_mr k_mr).binds (ps := ["_law_odd"]) fun _ _ _ _ _ _ us hl => match us, hl with | [_], _ => rfl
  obtain ⟨oc_as, od_as, kV_as, dc_as, pm_as, an_as, ct_as, sl_as, l_as, cd_as⟩ := f_as.ex
  have FC_as : FunC K "_law_asked_right" "_law_asked_right" sAsked a_as (fnOf "_law_asked_right" "_law_asked_right" (defArgs sAsked) (defBody sAsked) (defScope sAsked) .none kV_as dc_as pm_as an_as (.ref c_as) ct_as) c_as := ⟨⟨oc_as, od_as, kV_as, dc_as, pm_as, an_as, ct_as, sl_as, rfl, l_as, cd_as⟩⟩
  have b_as := (fun_mk (st := sAsked) l_as cd_as k_as).binds (ps := ["_law_pen_here", "_law_blocks", "_law_made"]) fun _ _ _ _ _ _ us hl => match us, hl with | [_, _, _], _ => rfl
  obtain ⟨oc_law, od_law, kV_law, dc_law, pm_law, an_law, ct_law, sl_law, l_law, cd_law⟩ := f_law.ex
  have FC_law : FunC K "law" "law" sLaw fa (fnOf "law" "law" (defArgs sLaw) (defBody sLaw) (defScope sLaw) .none kV_law dc_law pm_law an_law (.ref c_law) ct_law) c_law := ⟨⟨oc_law, od_law, kV_law, dc_law, pm_law, an_law, ct_law, sl_law, rfl, l_law, cd_law⟩⟩
  obtain ⟨e1, d1, vs1, s1, e2, d2, vs2, s2, e3, d3, vs3, s3, P1, P2, P3, hp1, hp2, hp3, hv1, hv2, hv3, n12, n13, n23, hno1, hno2, hno3⟩ := apart3 apt
  obtain ⟨tab1, code1⟩ := XJ.tab_one X tbM (mg_of X G g_mr) l_mr rfl hp1 hv1
  obtain ⟨tab2, code2⟩ := XJ.tab_one X tbA (mg_of X G g_as) l_as rfl hp2 hv2
  obtain ⟨tab3, code3⟩ := XJ.tab_one X tbL (mg_of X G g_law) l_law rfl hp3 hv3
  have L0 : PkT mg t0 t1 t2 := ⟨mg_none_of X G z_len, mg_none_of X G z_set, mg_none_of X G z_all, mg_none_of X G z_ord, mg_none_of X G z_isinstance, mg_none_of X G z_str, mg_of X G y0, mg_of X G y1, mg_of X G y2⟩
  have T0 : Txt mg := ⟨mg_none_of X G z_len, mg_none_of X G z_int, mg_none_of X G z_list, mg_none_of X G z_abs⟩
  have KL : KLg K C := ⟨clC, noC⟩
  have mR := mg_none_of X G z_range
  have E_DB : Err1 K mg "InvalidBlock" "index" DB := ⟨x_DB.xt PySem.F.excBase_ValueError PySem.F.store_ValueError, xi_DB i_DB n_DB, x_DB.ty, mg_of X G x_DB.ns⟩
  have E_DT : Err1 K mg "InvalidText" "value" DT := ⟨x_DT.xt PySem.F.excBase_ValueError PySem.F.store_ValueError, xi_DT i_DT n_DT, x_DT.ty, mg_of X G x_DT.ns⟩
  have E_DM : Err1 K mg "TooMany" "limit" DM := ⟨x_DM.xt PySem.F.excBase_OverflowError PySem.F.store_OverflowError, xi_DM i_DM n_DM, x_DM.ty, mg_of X G x_DM.ns⟩
  have E_DR : Err1 K mg "OutOfRange" "value" DR := ⟨x_DR.xt PySem.F.excBase_LookupError PySem.F.store_LookupError, xi_DR i_DR n_DR, x_DR.ty, mg_of X G x_DR.ns⟩
  have EF : ErrF K mg DB DT DM DR := ⟨E_DB, E_DT, E_DM, E_DR, e_bb, e_tb, e_tt, e_mb, e_mt, e_mm, e_rb, e_rt, e_rm, e_rr, e_kB, e_kT, e_kM, e_kR⟩
  have TO : ToldAt K mg DB DT DM DR a_td d_td := ⟨F_td, mg_of X G g_td, k_td, b_td, EF, mg_none_of X G z_isinstance, mg_none_of X G z_repr, mg_none_of X G z_ValueError, mg_none_of X G z_OverflowError, mg_none_of X G z_LookupError⟩
  refine ⟨(fnOf "law" "law" (defArgs sLaw) (defBody sLaw) (defScope sLaw) .none kV_law dc_law pm_law an_law (.ref c_law) ct_law), [(c_mr, P1), (c_as, P2), (c_law, P3)], spLaw K [(P1, lamQ "_law_many_right" sMany), (P2, lamQ "_law_asked_right" sAsked), (P3, lamQ "law" sLaw)], ?_, ?_, ?_, fun s v => .of_eq rfl, ?_, fun base _ _ TB => ?_⟩
  · intro q hq
    simp only [List.mem_cons, List.not_mem_nil, or_false] at hq
    rcases hq with rfl | rfl | rfl
    · exact tab1
    · exact tab2
    · exact tab3
  · intro q hq
    simp only [List.mem_cons, List.not_mem_nil, or_false] at hq
    rcases hq with rfl | rfl | rfl
    · exact hno1
    · exact hno2
    · exact hno3
  · intro q hq
    simp only [List.mem_cons, List.not_mem_nil, or_false] at hq
    rcases hq with rfl | rfl | rfl
    · exact code1
    · exact code2
    · exact code3
  · intro H a ns hl hT hS
    exact ⟨a, ns, rfl, hS, hl, tabs_new (hT (c_mr, P1) (by simp)) (hT (c_as, P2) (by simp)) (hT (c_law, P3) (by simp)), fun _ => rfl⟩
  have TB1 : TabB base mg c_mr P1 := TB (c_mr, P1) (by simp)
  have TB2 : TabB base mg c_as P2 := TB (c_as, P2) (by simp)
  have TB3 : TabB base mg c_law P3 := TB (c_law, P3) (by simp)
  obtain ⟨T, hT⟩ : ∃ T, T = [(P1, lamQ "_law_many_right" sMany), (P2, lamQ "_law_asked_right" sAsked), (P3, lamQ "law" sLaw)] := ⟨_, rfl⟩
  have in1 : (P1, lamQ "_law_many_right" sMany) ∈ T := by rw [hT]; exact List.mem_cons_self
  have in2 : (P2, lamQ "_law_asked_right" sAsked) ∈ T := by rw [hT]; exact List.mem_cons_of_mem _ List.mem_cons_self
  have in3 : (P3, lamQ "law" sLaw) ∈ T := by rw [hT]; exact List.mem_cons_of_mem _ (List.mem_cons_of_mem _ List.mem_cons_self)
  have one1 : ∀ q ∈ T, q.1 = P1 → q.2 = lamQ "_law_many_right" sMany := by
    rw [hT]
    intro q hq e
    simp only [List.mem_cons, List.not_mem_nil, or_false] at hq
    rcases hq with rfl | rfl | rfl
    · rfl
    · exact absurd e.symm n12
    · exact absurd e.symm n13
  have one2 : ∀ q ∈ T, q.1 = P2 → q.2 = lamQ "_law_asked_right" sAsked := by
    rw [hT]
    intro q hq e
    simp only [List.mem_cons, List.not_mem_nil, or_false] at hq
    rcases hq with rfl | rfl | rfl
    · exact absurd e n12
    · rfl
    · exact absurd e.symm n23
  have one3 : ∀ q ∈ T, q.1 = P3 → q.2 = lamQ "law" sLaw := by
    rw [hT]
    intro q hq e
    simp only [List.mem_cons, List.not_mem_nil, or_false] at hq
    rcases hq with rfl | rfl | rfl
    · exact absurd e n13
    · exact absurd e n23
    · rfl
  rw [← hT]
  have o_draw := ok_draw (P := l.prog) (w := w) (base := base) F_draw T0
  have cD : DrawAt l.prog w K mg base a_draw d_draw := ⟨o_draw, mg_of X G g_draw, k_draw, b_draw⟩
  have cP : PickAt l.prog w K mg base a_pick d_pick := ⟨ok_pick F_pick T0 o_draw (mg_of X G g_draw) k_draw b_draw, mg_of X G g_pick, k_pick, b_pick⟩
  have c_pen : CallOf l.prog w K mg base 1 "_law_pen" ["_law_script"] (spPen K) a_pen d_pen := ⟨ok_pen F_pen T0, mg_of X G g_pen, k_pen, b_pen⟩
  have c_gr : CallOf l.prog w K mg base 2 "_law_great" ["_law_pen_here", "_law_digits"] spGreat a_gr d_gr := ⟨ok_great F_gr mR cD, mg_of X G g_gr, k_gr, b_gr⟩
  have c_sgn : CallOf l.prog w K mg base 1 "_law_signs" [] spLit a_sgn d_sgn := ⟨ok_signs F_sgn, mg_of X G g_sgn, k_sgn, b_sgn⟩
  have c_isr : CallOf l.prog w K mg base 2 "_law_is_row" ["_law_thing"] (spQ lineD) a_isr d_isr := ⟨ok_isRow F_isr (mg_none_of X G z_isinstance) (mg_none_of X G z_str) c_sgn, mg_of X G g_isr, k_isr, b_isr⟩
  have c_inl : CallOf l.prog w K mg base 1 "_law_is_number" ["_law_thing", "_law_low", "_law_high"] spNum a_inl d_inl := ⟨ok_isNumL F_inl (mg_none_of X G z_isinstance) (mg_none_of X G z_int) (mg_none_of X G z_bool), mg_of X G g_inl, k_inl, b_inl⟩
  have c_few : CallOf l.prog w K mg base 3 "_law_few" ["_law_pen_here"] spFew a_few d_few := ⟨ok_few F_few T0 mR cP F_sgn bs_sgn (mg_of X G g_sgn), mg_of X G g_few, k_few, b_few⟩
  have c_row : CallOf l.prog w K mg base 3 "_law_row" ["_law_pen_here", "_law_signs_here", "_law_least", "_law_most_letters"] spRow a_row d_row := ⟨ok_row F_row T0 mR cP o_draw (mg_of X G g_draw) k_draw b_draw, mg_of X G g_row, k_row, b_row⟩
  have c_rws : CallOf l.prog w K mg base 4 "_law_rows" ["_law_pen_here", "_law_signs_here", "_law_most_rows", "_law_most_letters"] spRows a_rws d_rws := ⟨ok_rows F_rws mR cD c_row, mg_of X G g_rws, k_rws, b_rws⟩
  have c_any : CallOf l.prog w K mg base 3 "_law_any_value" ["_law_pen_here"] spAny a_any d_any := ⟨ok_any F_any cP, mg_of X G g_any, k_any, b_any⟩
  have c_lb : CallOf l.prog w K mg base 4 "_law_lblocks" ["_law_pen_here", "_law_signs_here", "_law_most_blocks", "_law_tops"] spLB a_lb d_lb := ⟨ok_LB F_lb mR cD cP c_row, mg_of X G g_lb, k_lb, b_lb⟩
  have c_le : CallOf l.prog w K mg base 1 "is_letter" ["character"] spLetter a_le d_le := ⟨ok_letter F_le L0, mg_of X G g_le, k_le, b_le⟩
  have c_li : CallOf l.prog w K mg base 2 "is_line" ["value"] (spLine K) a_li d_li := ⟨ok_line F_li L0 c_le, mg_of X G g_li, k_li, b_li⟩
  have c_tx : CallOf l.prog w K mg base 3 "is_text" ["value"] (spQ txtD) a_tx d_tx := ⟨ok_isText F_tx L0 (mg_none_of X G z_list) (mg_none_of X G z_tuple) c_li, mg_of X G g_tx, k_tx, b_tx⟩
  have c_ii : CallOf l.prog w K mg base 1 "is_integer" ["value"] (spQ isI) a_ii d_ii := ⟨ok_isInt F_ii (mg_none_of X G z_isinstance) (mg_none_of X G z_int) (mg_none_of X G z_bool), mg_of X G g_ii, k_ii, b_ii⟩
  have c_cn : CallOf l.prog w K mg base 2 "is_counting" ["value"] (spQ cntD) a_cn d_cn := ⟨ok_counting F_cn c_ii, mg_of X G g_cn, k_cn, b_cn⟩
  have c_nu : CallOf l.prog w K mg base 2 "is_number" ["value", "least", "greatest"] spNum a_nu d_nu := ⟨ok_isNum F_nu c_ii, mg_of X G g_nu, k_nu, b_nu⟩
  have c_bk : CallOf l.prog w K mg base 4 "is_block" ["value"] (spQ blkD) a_bk d_bk := ⟨ok_isBlk F_bk L0 (mg_none_of X G z_tuple) (mg_of X G y4) (mg_of X G y5) c_tx c_cn, mg_of X G g_bk, k_bk, b_bk⟩
  have c_lo : CallOf l.prog w K mg base 1 "length_of" ["blocks"] spLenOf a_lo d_lo := ⟨ok_lenOf F_lo (mg_none_of X G z_len) (mg_none_of X G z_sum), mg_of X G g_lo, k_lo, b_lo⟩
  have c_pi : CallOf l.prog w K mg base 1 "piece" ["lines", "low", "high"] spPiece a_pi d_pi := ⟨ok_piece F_pi (mg_none_of X G z_len), mg_of X G g_pi, k_pi, b_pi⟩
  have c_cu : CallOf l.prog w K mg base 2 "cut" ["blocks", "low", "high"] spCut a_cu d_cu := ⟨ok_cut F_cu (mg_none_of X G z_len) (mg_none_of X G z_min) (mg_none_of X G z_max) (mg_none_of X G z_tuple) c_pi, mg_of X G g_cu, k_cu, b_cu⟩
  have c_wo : CallOf l.prog w K mg base 1 "written_out" ["blocks"] spWrit a_wo d_wo := ⟨ok_writ F_wo mR, mg_of X G g_wo, k_wo, b_wo⟩
  have c_lx : CallOf l.prog w K mg base 3 "line_at_index" ["blocks", "index"] spLineI a_lx d_lx := ⟨ok_lineI F_lx c_cu c_wo, mg_of X G g_lx, k_lx, b_lx⟩
  have o_ck := ok_chk (P := l.prog) (w := w) (base := base) F_ck E_DT c_tx
  have IP := ok_initP (P := l.prog) (w := w) (mg := mg) (base := base) ini KL E_DB E_DM (mg_none_of X G z_enumerate) (mg_none_of X G z_len) (mg_none_of X G z_tuple) (mg_of X G y3) c_bk
  have IK := ok_initK (P := l.prog) (w := w) (mg := mg) (base := base) ini KL E_DB E_DM (mg_none_of X G z_enumerate) (mg_none_of X G z_len) (mg_none_of X G z_tuple) (mg_of X G y3) c_bk
  have oB := ok_blks (P := l.prog) (w := w) (mg := mg) (base := base) F_mB KL
  have oN := ok_llen (P := l.prog) (w := w) (mg := mg) (base := base) F_mN KL c_lo
  have oA := ok_plus (P := l.prog) (w := w) (mg := mg) (base := base) F_mA KL (mg_of X G gC) mkC IK prB oB b_mB
  have oO := ok_of (P := l.prog) (w := w) (mg := mg) (base := base) F_mO mkC (mg_none_of X G z_tuple) IK (mg_of X G g_ck) k_ck o_ck b_ck
  have oL := ok_lineAt (P := l.prog) (w := w) (mg := mg) (base := base) F_mL KL E_DR c_nu c_lx prN oN b_mN
  have oP := ok_part (P := l.prog) (w := w) (mg := mg) (base := base) F_mP KL E_DR (mg_none_of X G z_min) (mg_of X G y6) c_nu c_cu c_wo prN oN b_mN
  have GA : LgAt l.prog w K mg base C DB DM fI a_mA d_mA := ⟨KL, mkC, mg_of X G gC, IP, oA, atA, fnA, b_mA, sfC⟩
  have kL : KBinds K d_mL ["self", "number"] ["number"] g2 g2V := by
    obtain ⟨oc, od, kV, doc, pm, an, cdv, ct, osl, rfl, _, _⟩ := F_mL.ex
    exact ⟨fun s us ws _ hl => by (obtain ⟨p, q, rfl, rfl⟩ := g2_len hl; exact .of_eq rfl), g2_rel⟩
  have kP1 : KBinds K d_mP ["self", "first", "last"] ["first", "last"] g3 g3V := by
    obtain ⟨oc, od, kV, doc, pm, an, cdv, ct, osl, rfl, _, _⟩ := F_mP.ex
    exact ⟨fun s us ws _ hl => by (obtain ⟨p, q, r, rfl, rfl⟩ := g3_len hl; exact .of_eq rfl), g3_rel⟩
  have kP2 : KBinds K d_mP ["self", "first", "last"] ["last", "first"] g3r g3rV := by
    obtain ⟨oc, od, kV, doc, pm, an, cdv, ct, osl, rfl, _, _⟩ := F_mP.ex
    exact ⟨fun s us ws _ hl => by (obtain ⟨p, q, r, rfl, rfl⟩ := g3r_len hl; exact .of_eq rfl), g3r_rel⟩
  have kO1 : KBinds K d_mO ["cls", "text"] ["text"] g2 g2V := by
    obtain ⟨oc, od, kV, doc, pm, an, cdv, ct, osl, rfl, _, _⟩ := F_mO.ex
    exact ⟨fun s us ws _ hl => by (obtain ⟨p, q, rfl, rfl⟩ := g2_len hl; exact .of_eq rfl), g2_rel⟩
  have OF : FnR l.prog w K mg base (L2.CX l.prog w) 7 a_mO (spOf C DT) := (oO.raw b_mO .nil).imp fun vs H Q E h => by rw [List.append_nil]; exact h
  have GF : LgF l.prog w K mg base C DB DT DM DR fI a_mA a_mN pN a_mB pB a_mL a_mP a_mO pO (.type "type") d_mA d_mN d_mB d_mL d_mP d_mO := ⟨GA, oN, prN, b_mN, oB, prB, b_mB, oL, meL, b_mL, kL, oP, meP, b_mP, kP1, kP2, ⟨rdC, gaC⟩, ofC, OF, oO, kO1⟩
  have c_lm : CallOf l.prog w K mg base 8 "_law_lmade" ["_law_blocks"] (spLM C) a_lm d_lm := ⟨ok_LM F_lm GA, mg_of X G g_lm, k_lm, b_lm⟩
  have c_ls : CallOf l.prog w K mg base 1 "_law_lsize" ["_law_blocks"] spLS a_ls d_ls := ⟨ok_LS F_ls (mg_none_of X G z_len) (mg_none_of X G z_sum), mg_of X G g_ls, k_ls, b_ls⟩
  have c_ll : CallOf l.prog w K mg base 1 "_law_lline" ["_law_blocks", "_law_slot"] spLL a_ll d_ll := ⟨ok_LL F_ll (mg_none_of X G z_len) (mg_none_of X G z_int), mg_of X G g_ll, k_ll, b_ll⟩
  have c_ibl : CallOf l.prog w K mg base 3 "_law_is_block" ["_law_thing"] (spQ blkD) a_ibl d_ibl := ⟨ok_isBlkL F_ibl (mg_none_of X G z_isinstance) (mg_none_of X G z_list) (mg_none_of X G z_tuple) (mg_none_of X G z_len) c_isr c_inl, mg_of X G g_ibl, k_ibl, b_ibl⟩
  have c_so : CallOf l.prog w K mg base 4 "_law_some" ["_law_pen_here", "_law_signs_here"] spSome a_so d_so := ⟨ok_some F_so mR (mg_none_of X G z_tuple) cD cP c_row c_any, mg_of X G g_so, k_so, b_so⟩
  have c_ca_ : CallX l.prog w K mg base 7 "_law_called" ["_law_some_here"] (spCalled C DB) a_ca d_ca := ⟨ok_called F_ca (mg_none_of X G z_len) GA, mg_of X G g_ca, k_ca, b_ca⟩
  have c_mr_ : CallG l.prog w K mg base 12 "_law_many_right" ["_law_odd"] (spMany T) a_mr (fnOf "_law_many_right" "_law_many_right" (defArgs sMany) (defBody sMany) (defScope sMany) .none kV_mr dc_mr pm_mr an_mr (.ref c_mr) ct_mr) := ⟨ok_many FC_mr TB1 in1 one1 TO GF c_ibl, mg_of X G g_mr, k_mr, b_mr⟩
  have c_as_ : CallG l.prog w K mg base 12 "_law_asked_right" ["_law_pen_here", "_law_blocks", "_law_made"] (spAsked C T) a_as (fnOf "_law_asked_right" "_law_asked_right" (defArgs sAsked) (defBody sAsked) (defScope sAsked) .none kV_as dc_as pm_as an_as (.ref c_as) ct_as) := ⟨ok_asked FC_as TB2 in2 one2 TO GF (mg_none_of X G z_repr) (mg_none_of X G z_list) (mg_none_of X G z_int) (mg_none_of X G z_max) (mg_none_of X G z_min) (mg_none_of X G z_range) c_inl c_ls c_ll c_gr c_any, mg_of X G g_as, k_as, b_as⟩
  have c_ap : CallOf l.prog w K mg base 9 "_law_is_apart" ["_law_pen_here", "_law_signs_here"] spApart a_ap d_ap := ⟨ok_apart F_ap GF mR (mg_none_of X G z_list) (mg_none_of X G z_len) cD c_row, mg_of X G g_ap, k_ap, b_ap⟩
  exact ok_law FC_law TB3 in3 one3 TO GF mR (mg_none_of X G z_min) (mg_none_of X G z_len) (mg_none_of X G z_repr) (mg_none_of X G z_isinstance) (mg_none_of X G z_list) (mg_none_of X G z_tuple) c_pen c_few cD c_so c_ibl c_ca_ c_as_ c_mr_ c_ap c_rws c_lb c_lm c_any c_isr
end LA
end
section
open PySem PySem.W PyProof.Rows
set_option Elab.async false
set_option maxRecDepth 100000
set_option maxHeartbeats 0
open_top LA46head for PySem.Challenge.rw_linestream_k46_long_texts_made
end
section
set_option Elab.async false
set_option linter.all false
open PySem PySem.W PyProof.Rows
set_option maxRecDepth 100000 in
set_option maxHeartbeats 0 in
theorem PySem.Challenge.cw_linestream_k46_long_texts_made_holds : PySem.Challenge.rw_linestream_k46_long_texts_made.Holds :=
  LA46head (by
    k_fill
    refine XJ.caller_walkU (l := PySem.Challenge.rw_linestream_k46_long_texts_made) (n := 63) (k := 20) (x := "_law_script") rfl (by decide) rfl ⟨rfl, by decide, by decide⟩ (fun w h Y => PySem.W.km_in_of Y) ?F
    case F =>
      intro w mg fa h Y KX G hmg0 TB
      have hmg : mg "law" = some (.ref fa) := hmg0
      have tbM := TB "_law_many_right" (by decide +kernel)
      have tbA := TB "_law_asked_right" (by decide +kernel)
      have tbL := TB "law" (by decide +kernel)
      clear hmg0 TB Y
      refine' LA.all_mk KX G hmg tbM tbA tbL ?h_g_pen ?h_f_pen ?h_k_pen ?h_g_draw ?h_f_draw ?h_k_draw ?h_g_pick ?h_f_pick ?h_k_pick ?h_g_gr ?h_f_gr ?h_k_gr ?h_g_sgn ?h_f_sgn ?h_k_sgn ?h_g_isr ?h_f_isr ?h_k_isr ?h_g_inl ?h_f_inl ?h_k_inl ?h_g_few ?h_f_few ?h_k_few ?h_g_row ?h_f_row ?h_k_row ?h_g_rws ?h_f_rws ?h_k_rws ?h_g_any ?h_f_any ?h_k_any ?h_g_lb ?h_f_lb ?h_k_lb ?h_g_lm ?h_f_lm ?h_k_lm ?h_g_ls ?h_f_ls ?h_k_ls ?h_g_ll ?h_f_ll ?h_k_ll ?h_g_td ?h_f_td ?h_k_td ?h_g_ibl ?h_f_ibl ?h_k_ibl ?h_g_so ?h_f_so ?h_k_so ?h_g_ca ?h_f_ca ?h_k_ca ?h_g_ap ?h_f_ap ?h_k_ap ?h_g_le ?h_f_le ?h_k_le ?h_g_li ?h_f_li ?h_k_li ?h_g_tx ?h_f_tx ?h_k_tx ?h_g_ck ?h_f_ck ?h_k_ck ?h_g_ii ?h_f_ii ?h_k_ii ?h_g_cn ?h_f_cn ?h_k_cn ?h_g_bk ?h_f_bk ?h_k_bk ?h_g_lo ?h_f_lo ?h_k_lo ?h_g_pi ?h_f_pi ?h_k_pi ?h_g_cu ?h_f_cu ?h_k_cu ?h_g_wo ?h_f_wo ?h_k_wo ?h_g_lx ?h_f_lx ?h_k_lx ?h_g_nu ?h_f_nu ?h_k_nu ?h_g_mr ?h_f_mr ?h_k_mr ?h_g_as ?h_f_as ?h_k_as ?h_g_law ?h_f_law ?h_k_law ?h_apt ?h_gC ?h_clC ?h_mkC ?h_ini ?h_noC ?h_atA ?h_fnA ?h_sfC ?h_prN ?h_prB ?h_meL ?h_meP ?h_rdC ?h_gaC ?h_ofC ?h_f_mA ?h_k_mA ?h_f_mN ?h_k_mN ?h_f_mB ?h_k_mB ?h_f_mO ?h_k_mO ?h_f_mL ?h_k_mL ?h_f_mP ?h_k_mP ?h_x_DB ?h_i_DB ?h_n_DB ?h_x_DT ?h_i_DT ?h_n_DT ?h_x_DM ?h_i_DM ?h_n_DM ?h_x_DR ?h_i_DR ?h_n_DR ?h_e_bb ?h_e_tb ?h_e_tt ?h_e_mb ?h_e_mt ?h_e_mm ?h_e_rb ?h_e_rt ?h_e_rm ?h_e_rr ?h_e_kB ?h_e_kT ?h_e_kM ?h_e_kR ?h_z_len ?h_z_int ?h_z_list ?h_z_abs ?h_z_range ?h_z_set ?h_z_all ?h_z_ord ?h_z_isinstance ?h_z_str ?h_z_sum ?h_z_min ?h_z_max ?h_z_tuple ?h_z_enumerate ?h_z_bool ?h_z_repr ?h_z_ValueError ?h_z_OverflowError ?h_z_LookupError ?h_y0 ?h_y1 ?h_y2 ?h_y3 ?h_y4 ?h_y5 ?h_y6
      (case h_g_pen => k_is)
      (case h_f_pen => (refine' XJ.fnF_mk ?q1 ?q2; (case q1 => k_is); (case q2 => k_is)))
      (case h_k_pen => k_is)
      (case h_g_draw => k_is)
      (case h_f_draw => (refine' XJ.fnF_mk ?q1 ?q2; (case q1 => k_is); (case q2 => k_is)))
      (case h_k_draw => k_is)
      (case h_g_pick => k_is)
      (case h_f_pick => (refine' XJ.fnF_mk ?q1 ?q2; (case q1 => k_is); (case q2 => k_is)))
      (case h_k_pick => k_is)
      (case h_g_gr => k_is)
      (case h_f_gr => (refine' XJ.fnF_mk ?q1 ?q2; (case q1 => k_is); (case q2 => k_is)))
      (case h_k_gr => k_is)
      (case h_g_sgn => k_is)
      (case h_f_sgn => (refine' XJ.fnF_mk ?q1 ?q2; (case q1 => k_is); (case q2 => k_is)))
      (case h_k_sgn => k_is)
      (case h_g_isr => k_is)
      (case h_f_isr => (refine' XJ.fnF_mk ?q1 ?q2; (case q1 => k_is); (case q2 => k_is)))
      (case h_k_isr => k_is)
      (case h_g_inl => k_is)
      (case h_f_inl => (refine' XJ.fnF_mk ?q1 ?q2; (case q1 => k_is); (case q2 => k_is)))
      (case h_k_inl => k_is)
      (case h_g_few => k_is)
      (case h_f_few => (refine' XJ.fnF_mk ?q1 ?q2; (case q1 => k_is); (case q2 => k_is)))
      (case h_k_few => k_is)
      (case h_g_row => k_is)
      (case h_f_row => (refine' XJ.fnF_mk ?q1 ?q2; (case q1 => k_is); (case q2 => k_is)))
      (case h_k_row => k_is)
      (case h_g_rws => k_is)
      (case h_f_rws => (refine' XJ.fnF_mk ?q1 ?q2; (case q1 => k_is); (case q2 => k_is)))
      (case h_k_rws => k_is)
      (case h_g_any => k_is)
      (case h_f_any => (refine' XJ.fnF_mk ?q1 ?q2; (case q1 => k_is); (case q2 => k_is)))
      (case h_k_any => k_is)
      (case h_g_lb => k_is)
      (case h_f_lb => (refine' XJ.fnF_mk ?q1 ?q2; (case q1 => k_is); (case q2 => k_is)))
      (case h_k_lb => k_is)
      (case h_g_lm => k_is)
      (case h_f_lm => (refine' XJ.fnF_mk ?q1 ?q2; (case q1 => k_is); (case q2 => k_is)))
      (case h_k_lm => k_is)
      (case h_g_ls => k_is)
      (case h_f_ls => (refine' XJ.fnF_mk ?q1 ?q2; (case q1 => k_is); (case q2 => k_is)))
      (case h_k_ls => k_is)
      (case h_g_ll => k_is)
      (case h_f_ll => (refine' XJ.fnF_mk ?q1 ?q2; (case q1 => k_is); (case q2 => k_is)))
      (case h_k_ll => k_is)
      (case h_g_td => k_is)
      (case h_f_td => (refine' XJ.fnF_mk ?q1 ?q2; (case q1 => k_is); (case q2 => k_is)))
      (case h_k_td => k_is)
      (case h_g_ibl => k_is)
      (case h_f_ibl => (refine' XJ.fnF_mk ?q1 ?q2; (case q1 => k_is); (case q2 => k_is)))
      (case h_k_ibl => k_is)
      (case h_g_so => k_is)
      (case h_f_so => (refine' XJ.fnF_mk ?q1 ?q2; (case q1 => k_is); (case q2 => k_is)))
      (case h_k_so => k_is)
      (case h_g_ca => k_is)
      (case h_f_ca => (refine' XJ.fnF_mk ?q1 ?q2; (case q1 => k_is); (case q2 => k_is)))
      (case h_k_ca => k_is)
      (case h_g_ap => k_is)
      (case h_f_ap => (refine' XJ.fnF_mk ?q1 ?q2; (case q1 => k_is); (case q2 => k_is)))
      (case h_k_ap => k_is)
      (case h_g_le => k_is)
      (case h_f_le => (refine' XJ.fnF_mk ?q1 ?q2; (case q1 => k_is); (case q2 => k_is)))
      (case h_k_le => k_is)
      (case h_g_li => k_is)
      (case h_f_li => (refine' XJ.fnF_mk ?q1 ?q2; (case q1 => k_is); (case q2 => k_is)))
      (case h_k_li => k_is)
      (case h_g_tx => k_is)
      (case h_f_tx => (refine' XJ.fnF_mk ?q1 ?q2; (case q1 => k_is); (case q2 => k_is)))
      (case h_k_tx => k_is)
      (case h_g_ck => k_is)
      (case h_f_ck => (refine' XJ.fnF_mk ?q1 ?q2; (case q1 => k_is); (case q2 => k_is)))
      (case h_k_ck => k_is)
      (case h_g_ii => k_is)
      (case h_f_ii => (refine' XJ.fnF_mk ?q1 ?q2; (case q1 => k_is); (case q2 => k_is)))
      (case h_k_ii => k_is)
      (case h_g_cn => k_is)
      (case h_f_cn => (refine' XJ.fnF_mk ?q1 ?q2; (case q1 => k_is); (case q2 => k_is)))
      (case h_k_cn => k_is)
      (case h_g_bk => k_is)
      (case h_f_bk => (refine' XJ.fnF_mk ?q1 ?q2; (case q1 => k_is); (case q2 => k_is)))
      (case h_k_bk => k_is)
      (case h_g_lo => k_is)
      (case h_f_lo => (refine' XJ.fnF_mk ?q1 ?q2; (case q1 => k_is); (case q2 => k_is)))
      (case h_k_lo => k_is)
      (case h_g_pi => k_is)
      (case h_f_pi => (refine' XJ.fnF_mk ?q1 ?q2; (case q1 => k_is); (case q2 => k_is)))
      (case h_k_pi => k_is)
      (case h_g_cu => k_is)
      (case h_f_cu => (refine' XJ.fnF_mk ?q1 ?q2; (case q1 => k_is); (case q2 => k_is)))
      (case h_k_cu => k_is)
      (case h_g_wo => k_is)
      (case h_f_wo => (refine' XJ.fnF_mk ?q1 ?q2; (case q1 => k_is); (case q2 => k_is)))
      (case h_k_wo => k_is)
      (case h_g_lx => k_is)
      (case h_f_lx => (refine' XJ.fnF_mk ?q1 ?q2; (case q1 => k_is); (case q2 => k_is)))
      (case h_k_lx => k_is)
      (case h_g_nu => k_is)
      (case h_f_nu => (refine' XJ.fnF_mk ?q1 ?q2; (case q1 => k_is); (case q2 => k_is)))
      (case h_k_nu => k_is)
      (case h_g_mr => k_is)
      (case h_f_mr => (refine' XJ.fnFC_mk ?q1 ?q2; (case q1 => k_is); (case q2 => k_is)))
      (case h_k_mr => k_is)
      (case h_g_as => k_is)
      (case h_f_as => (refine' XJ.fnFC_mk ?q1 ?q2; (case q1 => k_is); (case q2 => k_is)))
      (case h_k_as => k_is)
      (case h_g_law => k_is)
      (case h_f_law => (refine' XJ.fnFC_mk ?q1 ?q2; (case q1 => k_is); (case q2 => k_is)))
      (case h_k_law => k_is)
      (case h_apt => kernel_rfl)
      (case h_gC => k_is)
      (case h_clC => (refine' ⟨?q1, ?q2, ?q3, ?q4⟩; (case q1 => k_is); (case q2 => k_is); (case q3 => k_is); (case q4 => k_is)))
      (case h_mkC => (refine' ⟨?q1, ?q2, ?q3, ?q4⟩; (case q1 => k_is); (case q2 => k_is); (case q3 => k_is); (case q4 => k_is)))
      (case h_ini => (refine' LA.funV_mk ?q1 ?q2 ?q3; (case q1 => k_is); (case q2 => k_is); (case q3 => k_is)))
      (case h_noC => (unfold L2.NoAttr; k_is))
      (case h_atA => k_is)
      (case h_fnA => k_is)
      (case h_sfC => k_is)
      (case h_prN => (refine' XJ.propF_mk ?q1 ?q2 ?q3 ?q4; (case q1 => k_is); (case q2 => k_is); (case q3 => k_is); (case q4 => k_is)))
      (case h_prB => (refine' XJ.propF_mk ?q1 ?q2 ?q3 ?q4; (case q1 => k_is); (case q2 => k_is); (case q3 => k_is); (case q4 => k_is)))
      (case h_meL => (refine' ⟨?q1, ?q2, ?q3⟩; (case q1 => k_is); (case q2 => k_is); (case q3 => k_is)))
      (case h_meP => (refine' ⟨?q1, ?q2, ?q3⟩; (case q1 => k_is); (case q2 => k_is); (case q3 => k_is)))
      (case h_rdC => k_is)
      (case h_gaC => k_is)
      (case h_ofC => (refine' LA.cmet_mk ?q1 ?q2 ?q3; (case q1 => k_is); (case q2 => k_is); (case q3 => k_is)))
      (case h_f_mA => (refine' XJ.fnF_mk ?q1 ?q2; (case q1 => k_is); (case q2 => k_is)))
      (case h_k_mA => k_is)
      (case h_f_mN => (refine' XJ.fnF_mk ?q1 ?q2; (case q1 => k_is); (case q2 => k_is)))
      (case h_k_mN => k_is)
      (case h_f_mB => (refine' XJ.fnF_mk ?q1 ?q2; (case q1 => k_is); (case q2 => k_is)))
      (case h_k_mB => k_is)
      (case h_f_mO => (refine' XJ.fnF_mk ?q1 ?q2; (case q1 => k_is); (case q2 => k_is)))
      (case h_k_mO => k_is)
      (case h_f_mL => (refine' XJ.fnF_mk ?q1 ?q2; (case q1 => k_is); (case q2 => k_is)))
      (case h_k_mL => k_is)
      (case h_f_mP => (refine' XJ.fnF_mk ?q1 ?q2; (case q1 => k_is); (case q2 => k_is)))
      (case h_k_mP => k_is)
      (case h_x_DB => (refine' ⟨?q1, ?q2, ?q3, ?q4, ?q5, ?q6, ?q7, ?q8, ?q9, ?q10, ?q11, ?q12, ?q13, ?q14⟩; (case q1 => k_is); (case q2 => kernel_rfl); (case q3 => kernel_rfl); (case q4 => k_is); (case q5 => k_is); (case q6 => k_is); (case q7 => k_is); (case q8 => k_is); (case q9 => k_is); (case q10 => k_is); (case q11 => k_is); (case q12 => k_is); (case q13 => k_is); (case q14 => k_is)))
      (case h_i_DB => (refine' LA.initF_mk ?q1 ?q2 ?q3 ?q4; (case q1 => k_is); (case q2 => k_is); (case q3 => k_is); (case q4 => k_is)))
      (case h_n_DB => k_is)
      (case h_x_DT => (refine' ⟨?q1, ?q2, ?q3, ?q4, ?q5, ?q6, ?q7, ?q8, ?q9, ?q10, ?q11, ?q12, ?q13, ?q14⟩; (case q1 => k_is); (case q2 => kernel_rfl); (case q3 => kernel_rfl); (case q4 => k_is); (case q5 => k_is); (case q6 => k_is); (case q7 => k_is); (case q8 => k_is); (case q9 => k_is); (case q10 => k_is); (case q11 => k_is); (case q12 => k_is); (case q13 => k_is); (case q14 => k_is)))
      (case h_i_DT => (refine' LA.initF_mk ?q1 ?q2 ?q3 ?q4; (case q1 => k_is); (case q2 => k_is); (case q3 => k_is); (case q4 => k_is)))
      (case h_n_DT => k_is)
      (case h_x_DM => (refine' ⟨?q1, ?q2, ?q3, ?q4, ?q5, ?q6, ?q7, ?q8, ?q9, ?q10, ?q11, ?q12, ?q13, ?q14⟩; (case q1 => k_is); (case q2 => kernel_rfl); (case q3 => kernel_rfl); (case q4 => k_is); (case q5 => k_is); (case q6 => k_is); (case q7 => k_is); (case q8 => k_is); (case q9 => k_is); (case q10 => k_is); (case q11 => k_is); (case q12 => k_is); (case q13 => k_is); (case q14 => k_is)))
      (case h_i_DM => (refine' LA.initF_mk ?q1 ?q2 ?q3 ?q4; (case q1 => k_is); (case q2 => k_is); (case q3 => k_is); (case q4 => k_is)))
      (case h_n_DM => k_is)
      (case h_x_DR => (refine' ⟨?q1, ?q2, ?q3, ?q4, ?q5, ?q6, ?q7, ?q8, ?q9, ?q10, ?q11, ?q12, ?q13, ?q14⟩; (case q1 => k_is); (case q2 => kernel_rfl); (case q3 => kernel_rfl); (case q4 => k_is); (case q5 => k_is); (case q6 => k_is); (case q7 => k_is); (case q8 => k_is); (case q9 => k_is); (case q10 => k_is); (case q11 => k_is); (case q12 => k_is); (case q13 => k_is); (case q14 => k_is)))
      (case h_i_DR => (refine' LA.initF_mk ?q1 ?q2 ?q3 ?q4; (case q1 => k_is); (case q2 => k_is); (case q3 => k_is); (case q4 => k_is)))
      (case h_n_DR => k_is)
      (case h_e_bb => kernel_rfl)
      (case h_e_tb => kernel_rfl)
      (case h_e_tt => kernel_rfl)
      (case h_e_mb => kernel_rfl)
      (case h_e_mt => kernel_rfl)
      (case h_e_mm => kernel_rfl)
      (case h_e_rb => kernel_rfl)
      (case h_e_rt => kernel_rfl)
      (case h_e_rm => kernel_rfl)
      (case h_e_rr => kernel_rfl)
      (case h_e_kB => kernel_rfl)
      (case h_e_kT => kernel_rfl)
      (case h_e_kM => kernel_rfl)
      (case h_e_kR => kernel_rfl)
      (case h_z_len => k_is)
      (case h_z_int => k_is)
      (case h_z_list => k_is)
      (case h_z_abs => k_is)
      (case h_z_range => k_is)
      (case h_z_set => k_is)
      (case h_z_all => k_is)
      (case h_z_ord => k_is)
      (case h_z_isinstance => k_is)
      (case h_z_str => k_is)
      (case h_z_sum => k_is)
      (case h_z_min => k_is)
      (case h_z_max => k_is)
      (case h_z_tuple => k_is)
      (case h_z_enumerate => k_is)
      (case h_z_bool => k_is)
      (case h_z_repr => k_is)
      (case h_z_ValueError => k_is)
      (case h_z_OverflowError => k_is)
      (case h_z_LookupError => k_is)
      (case h_y0 => k_is)
      (case h_y1 => k_is)
      (case h_y2 => k_is)
      (case h_y3 => k_is)
      (case h_y4 => k_is)
      (case h_y5 => k_is)
      (case h_y6 => k_is)
    )
end
