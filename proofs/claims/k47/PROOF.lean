import PyProof.Rows.All
import Wide.All
import OpenK.AllK
import Wide.FinOn
import KE.KExcInit
import HandS.ForMost
import HandS.Exc
import HandS.ExcOwn
import HandS.ExcInit
import HandS.ExcValue
import HandS.IsInst
import HandS.ExcIs
import KE.KExcIs
import HandS.MakeKwOnly
import HandS.SetFor
import HandS.RaiseMore
import KE.KxIndex
import HandS.Star
import HandS.Defaults
import HandS.Walk
import KE.GoesMore
import PyProof.EnumMake
import HandS.OwnEq
import PyProof.InstEq
import HandS.SlotsOwn
import HandS.ReplaceLit
import HandS.Codes
import HandS.Wide
import HandS.SortKw
import HandS.SetTxt0
import HandS.Strs
import HandS.Conv
import HandS.ClsMeth
import HandS.Property
import HandS.TupAny
import HandS.Style
import PyProof.LongRange
import HandS.TupSets
import PyProof.ReprLen
import HandS.TryOnly
import HandS.Words
import PySem.Challenge.RW_linestream_k47_whole_long_texts_cut
set_option Elab.async false
set_option linter.all false
section
set_option Elab.async false
set_option linter.all false
set_option maxRecDepth 100000
set_option maxHeartbeats 5000000
namespace XK
open PySem PySem.W PySem.Calls PySem.HandSPX
section
variable {pg : Program} {w : World} {A : Around} {E : Value → Shared → Prop} {R : Result → Shared → Prop} {h : Heap} {gs : Array GenState} {dr : Drawn} {tk0 : Nat} {ost : OsState}
variable {nam q : Str} {C N : Addr} {bss bml bmb : List Value} {hdc : Bool} {snl : List Str} {subc : List Value} {abst : Bool} {coll : Option Bool} {ddc : Option Addr} {k0 k1 k2 k3 k5 : Option Value} {B nid iid : String}
variable {us : List Value} {kw : List (Str × Value)}
theorem free_check {B : String} {a b : String} {n : Nat} {names : List Str} :
    Bind.check ⟨.any, B, B, .cls, [⟨"args", .varPos, false⟩, ⟨"kwargs", .varKw, false⟩]⟩ a b n names = pure () := by
  cases names with
  | nil => rfl
  | cons x r => rfl
theorem new_checked {M : Model} (F : ExcBaseFacts B nid iid bmb) (hT : ∀ X : String, bml.contains (.type X) = bmb.contains (.type X)) {Q : Unit → Shared → Prop}
    (hC : h.get? C = some (excClassObj nam q C N bss bml hdc snl subc abst coll ddc k0 k1 k2 k3 k5 nid)) (hq : Q () ⟨h, gs, dr, tk0, ost⟩) :
    wpAny M A (checkBuiltinCall nid ⟨.ref C :: us, kw⟩) Q E ⟨h, gs, dr, tk0, ost⟩ := by
  have c1 : (Value.ref C :: bml).contains (.type B) = true := by
    rw [List.contains_cons, hT, F.hasB, Bool.or_true]
  have c2 := F.noStar
  simp only [F.newKind, F.newSplit, F.newRow,
    checkBuiltinCall]
  repeat (first
    | refine wpAny_loadPart_at hC ?_
    | (refine wpAny_isSubtype_exc hC ?_; rw [c1])
    | refine wpAny_staticBase_exc hC ?_
    | refine wpAny_madeBy_exc hC ?_
    | simp only [bne_self_eq_false, Bool.false_eq_true, if_false]
    | wp_step)
  exact hq
/-- the object is laid, behind the tuple of what was passed by position -/
theorem new_laid (F : ExcBaseFacts B nid iid bmb) (hT : ∀ X : String, bml.contains (.type X) = bmb.contains (.type X)) (hu : us.length ≤ sizeLine)
    (hC : h.get? C = some (excClassObj nam q C N bss bml hdc snl subc abst coll ddc k0 k1 k2 k3 k5 nid))
    (hq : R (.ok (.ret (.ref (h.objs.size + 1)))) ⟨(h.push (kdv_tup us)).push (excO C h.objs.size), gs, dr, tk0, ost⟩) :
    codeAny (model pg w) A (.builtin nid ⟨.ref C :: us, kw⟩) R ⟨h, gs, dr, tk0, ost⟩ := by
  have ends := F.ends
  have c1 : (Value.ref C :: bml).contains (.type B) = true := by
    rw [List.contains_cons, hT, F.hasB, Bool.or_true]
  have c2 : (Value.ref C :: bml).contains (.type "AttributeError") = false := by
    rw [List.contains_cons, hT, F.noAttr]
    rfl
  have c3 : (Value.ref C :: bml).contains (.type "NameError") = false := by
    rw [List.contains_cons, hT, F.noName]
    rfl
  refine codeAny_builtinAt
    F.entry ?_
  unfold
    Builtin.«BaseException.__new__»
  refine wpAt_bind ?_
  show wpAt _ _ _ (stack >>= _)
    _ _ _
  refine wpAt_bind (wpAt_stack fun pp qq => wpAt_of_wpAny ?_)
  wp_walk
  refine wpAt_of_wpAny ?_
  rw [F.owner]
  repeat (first
    | with_reducible refine wpAny_madeHere_exc F.canon hC ?_
    | with_reducible refine wpAny_loadPart_at hC ?_
    | (with_reducible refine wpAny_isSubtype_exc hC ?_
       first | rw [c1] | rw [c2] | rw [c3])
    | wp_step)
  show R _ _
  rw [Heap.size_push]
  exact hq
theorem type_called {fI : Addr} {Q : Fin → Shared → Prop} (F : ExcBaseFacts B nid iid bmb) (hT : ∀ X : String, bml.contains (.type X) = bmb.contains (.type X)) (hu : us.length ≤ sizeLine)
    (hC : h.get? C = some (excClassObj nam q C N bss bml hdc snl subc abst coll ddc k0 k1 k2 k3 k5 nid))
    (hi : Looks (model pg w) h (typeLookup (.ref C) "__init__") (some (.ref fI)))
    (hb : ∀ self, Looks (model pg w) h (bindSpecial (.ref fI) self) (.ref fI, [self]))
    (hq : codeAny (model pg w) A (.call (.ref fI) ⟨.ref (h.objs.size + 1) :: us, kw⟩)
      (fun res s' => match res with | .ok (.ret v) => v = .none ∧ Q (.done (.ret (.ref (h.objs.size + 1)))) s' | .ok _ => False | .error e => E e s')
      ⟨(h.push (kdv_tup us)).push (excO C h.objs.size), gs, dr, tk0, ost⟩) :
    wpAny (model pg w) A (Builtin.«type.__call__» ⟨.ref C :: us, kw⟩) Q E ⟨h, gs, dr, tk0, ost⟩ := by
  repeat (first
    | with_reducible refine wpAny_loadPart_at hC ?_
    | with_reducible refine wpAny_madeBy_exc hC ?_
    | wp_step)
  refine codeAny_call_builtin_code (Code.quiet_builtin _ F.quiet) (new_checked F hT hC ?_)
  refine new_laid F hT hu hC ?_
  show wpAny _ _ _ _ _ _
  have kk : ∀ b o, h.get? b = some o → ((h.push (kdv_tup us)).push (excO C h.objs.size)).get? b = some o := fun b o e =>
    Heap.get?_push_of_some _ (Heap.get?_push_of_some _ e)
  have got : ((h.push (kdv_tup us)).push (excO C h.objs.size)).get? (h.objs.size + 1) = some (excO C h.objs.size) := by heap_get
  have gotC := kk _ _ hC
  have self : (Value.ref C :: bml).contains (.ref C) = true := by simp
  have i1 := hi.keeps kk
  have b1 := (hb (.ref (h.objs.size + 1))).keeps kk
  unfold isInstance
  repeat (first
    | with_reducible refine wpAny_loadPart_at got ?_
    | (with_reducible refine wpAny_isSubtype_exc gotC ?_
       rw [self])
    | wp_step)
  show wpAny _ _ (typeLookup (.ref C) _)
    _ _ _
  refine i1.at (wpAny_holding (wpAny_bind (b1.at ?_)))
  refine wpAny_bind (wpAny_call (codeAny_mono hq fun res s' z => ?_))
  rcases res with er | (vv | _ | _ | _) <;> first | exact z | exact z.elim | skip
  obtain ⟨rfl, z⟩ := z
  first
    | exact wpAny_pure
        (wpAny_pure z)
    | (wp_walk; exact z)
theorem called {fI : Addr} (F : ExcBaseFacts B nid iid bmb) (hT : ∀ X : String, bml.contains (.type X) = bmb.contains (.type X)) (hu : us.length ≤ sizeLine)
    (hC : h.get? C = some (excClassObj nam q C N bss bml hdc snl subc abst coll ddc k0 k1 k2 k3 k5 nid))
    (hi : Looks (model pg w) h (typeLookup (.ref C) "__init__") (some (.ref fI)))
    (hb : ∀ self, Looks (model pg w) h (bindSpecial (.ref fI) self) (.ref fI, [self]))
    (hq : codeAny (model pg w) (A.under (.builtin "type.__call__" ⟨.ref C :: us, kw⟩)) (.call (.ref fI) ⟨.ref (h.objs.size + 1) :: us, kw⟩) (InitBack (h.objs.size + 1) R)
      ⟨(h.push (kdv_tup us)).push (excO C h.objs.size), gs, dr, tk0, ost⟩) :
    codeAny (model pg w) A (.call (.ref C) ⟨us, kw⟩) R ⟨h, gs, dr, tk0, ost⟩ := by
  have f1 := tc_lookup
  have f2 := tc_bind (.ref C)
  have isT : (⟨h, gs, dr, tk0, ost⟩ : Shared).TypeIs (.ref C) "type" := ⟨_, hC, rfl⟩
  refine codeAny_of_tree ?_
  show wpAny _ _ (callAny (.ref C) _)
    _ _ _
  repeat (any_goals (first
    | assumption
    | with_reducible refine wpAny_loadPart_at hC ?_
    | wp_step))
  refine ⟨rfl, ?_⟩
  refine codeAny_call_builtin_at (Code.quiet_builtin _ (by decide +kernel)) entry_typeCall (wpAny_check_type_call_sub hC (type_called F hT hu hC hi hb ?_))
  refine codeAny_mono hq fun res s' z => ?_
  rcases res with er | (vv | _ | _ | _) <;> exact z
end
/-! ### self.f = v on an exception of any built-in base, that has no dict yet -/
section
open Builtin.ObjectAttr Builtin
variable {pg : Program} {w : World} {A : Around} {E : Value → Shared → Prop} {R : Result → Shared → Prop} {hpz : Heap} {gs : Array GenState} {dr : Drawn} {tk0 : Nat} {ost : OsState}
variable {K : Frag} {name : Str} {tk : Tok} {v : Value} {x C dx : Addr} {fv : Array Value} {cd : ClassData} {bmb : List Value}
/-- what a class over a built-in exception says of stores -/
structure Opn (cd : ClassData) : Prop where
  ne : cd.mro.isEmpty = false
  ob : cd.mro.contains (.type "object") = true
  ps : ∀ self : Value, refuseLoop self "__setattr__" cd.mro = pure ()
  hd : cd.hasDict = true
theorem first_field (X : K.In hpz) (hx : hpz.get? x = some { cls := .ref C, data := .fields fv }) (hcd : clsIn K C = some cd) (O : Opn cd) (ha : findIn K (.ref C) name = some none)
    (hq : ∀ h' tk' dx, (∀ b o, b ≠ x → hpz.get? b = some o → h'.get? b = some o) → hpz.objs.size ≤ dx → dx ≠ x → h'.get? x = some { cls := .ref C, dict := some dx, data := .fields fv } →
      h'.Ns1 dx (fun y => if y = name then some v else none) → R (.ok (.ret .none)) ⟨h', gs, dr, tk', ost⟩) :
    codeAny (model pg w) A (.call (.builtin "object.__setattr__") ⟨[.ref x, .str name tk, v], []⟩) R ⟨hpz, gs, dr, tk0, ost⟩ := by
  have J : InstAt hpz x { cls := .ref C, data := .fields fv } C none := ⟨hx, rfl, rfl, trivial⟩
  have S := F.store_object
  have far : x ≠ hpz.objs.size := Nat.ne_of_lt (Heap.lt_size hx)
  have subc : Looks (model pg w) hpz (isInstance (.ref x) (.type "object")) true :=
    J.type.andThen (looks_mroIn X (by
      unfold mroIn
      rw [hcd, Option.bind_some, if_neg (by rw [O.ne]; decide), O.ob]))
  refine codeAny_call_builtin S.slot.plain S.entry ?_
  refine @check_slot (model pg w) _ _ ⟨hpz, gs, dr, tk0, ost⟩ "object.__setattr__" "object" "__setattr__" (.ref x) [.str name tk, v] [] _ S.kind S.split subc (S.args (.ref x) (.str name tk) v) ?_
  have m1 : Looks (model pg w) hpz (mroOf (.ref C)) cd.mro := (looks_clsIn X hcd).andThen .now
  have m2 : Looks (model pg w) hpz (storeTaker? none) none := .now
  have m3 : Looks (model pg w) hpz (classData C) cd := looks_clsIn X hcd
  rw [osa_eq, refuse_eq]
  refine wpAny_bind (wpAny_bind (J.type.at (wpAny_bind (m1.at ?_))))
  rw [O.ps]
  refine wpAny_pure (wpAny_bind (J.type.at (wpAny_bind ((looks_findIn X ha).at (wpAny_bind (m2.at ?_))))))
  show wpAny _ _ (storeInOwnDict (.ref x) (.ref C) (.str name tk) name v false)
    _ _ _
  have hh := O.hd
  obtain ⟨nam, bss, mro, ns, qn, hdd, snl, sb, abst, coll, del⟩ := cd
  dsimp only at hh
  subst hh
  unfold storeInOwnDict
    ownDictForStores
  repeat (first
    | with_reducible refine store_in_new ?_ ?_
    | with_reducible refine wpAny_loadPart_at hx ?_
    | with_reducible refine m3.at ?_
    | wp_step)
  · refine ⟨_, #[], _, (Heap.get?_update_ne _ _ _ _ far.symm).trans (Heap.get?_push_at rfl rfl), rfl, fun e he => absurd he (by simp), fun _ => rfl⟩
  · intro h' tk' hn' same
    have hx₁ : (hpz.push { cls := .type "dict", data := .dict #[] }).get? x = some { cls := .ref C, data := .fields fv } := Heap.get?_push_of_some _ hx
    refine hq h' tk' hpz.objs.size (fun b o hb ho => ?_) (Nat.le_refl _) far.symm ?_ hn'
    · have e1 := same.2 b (Nat.ne_of_lt (Heap.lt_size ho))
      exact e1.trans ((Heap.get?_update_ne _ _ _ _ hb).trans (Heap.get?_push_of_some _ ho))
    · have e2 := same.2 x far
      exact e2.trans (Heap.get?_update_self _ hx₁ rfl)
theorem next_field {m0 : Str → Option Value} {nl : List Str} (X : K.In hpz) (hx : hpz.get? x = some { cls := .ref C, dict := some dx, data := .fields fv }) (hns : hpz.Ns1 dx m0) (hw : Within m0 nl) (hz : nl.length ≤ 1000)
    (hcd : clsIn K C = some cd) (O : Opn cd) (ha : findIn K (.ref C) name = some none)
    (hq : ∀ h' tk', (∀ b o, b ≠ dx → hpz.get? b = some o → h'.get? b = some o) → h'.Ns1 dx (fun y => if y = name then some v else m0 y) → R (.ok (.ret .none)) ⟨h', gs, dr, tk', ost⟩) :
    codeAny (model pg w) A (.call (.builtin "object.__setattr__") ⟨[.ref x, .str name tk, v], []⟩) R ⟨hpz, gs, dr, tk0, ost⟩ := by
  obtain ⟨oD, _, _, hoD, _, _⟩ := hns.count hw
  have J : InstAt hpz x { cls := .ref C, dict := some dx, data := .fields fv } C (some oD) := ⟨hx, rfl, rfl, hoD⟩
  have S := F.store_object
  have subc : Looks (model pg w) hpz (isInstance (.ref x) (.type "object")) true :=
    J.type.andThen (looks_mroIn X (by
      unfold mroIn
      rw [hcd, Option.bind_some, if_neg (by rw [O.ne]; decide), O.ob]))
  refine codeAny_call_builtin S.slot.plain S.entry ?_
  refine @check_slot (model pg w) _ _ ⟨hpz, gs, dr, tk0, ost⟩ "object.__setattr__" "object" "__setattr__" (.ref x) [.str name tk, v] [] _ S.kind S.split subc (S.args (.ref x) (.str name tk) v) ?_
  have m1 : Looks (model pg w) hpz (mroOf (.ref C)) cd.mro := (looks_clsIn X hcd).andThen .now
  have m2 : Looks (model pg w) hpz (storeTaker? none) none := .now
  have m3 : Looks (model pg w) hpz (classData C) cd := looks_clsIn X hcd
  rw [osa_eq, refuse_eq]
  refine wpAny_bind (wpAny_bind (J.type.at (wpAny_bind (m1.at ?_))))
  rw [O.ps]
  refine wpAny_pure (wpAny_bind (J.type.at (wpAny_bind ((looks_findIn X ha).at (wpAny_bind (m2.at ?_))))))
  show wpAny _ _ (storeInOwnDict (.ref x) (.ref C) (.str name tk) name v false)
    _ _ _
  have hh := O.hd
  obtain ⟨nam, bss, mro, ns, qn, hdd, snl, sb, abst, coll, del⟩ := cd
  dsimp only at hh
  subst hh
  unfold storeInOwnDict
    ownDictForStores
  repeat (first
    | with_reducible refine OEX.store_in_old hns hw hz ?_
    | with_reducible refine wpAny_loadPart_at hx ?_
    | with_reducible refine m3.at ?_
    | wp_step)
  intro h' tk' hn' same
  exact hq h' tk' (fun b o hb ho => (same.2 b hb).trans ho) hn'
end
end XK
end
section
set_option Elab.async false
set_option linter.all false
set_option maxRecDepth 100000
set_option maxHeartbeats 4100000
namespace XK
open PySem PySem.W PySem.Calls PySem.HandSPX
open PyProof.Rows (envOfC)
/-! ### the text of an __init__ that keeps one field -/
def aOne (f : Str) (p1 p2 : Pos) : Arguments := { posonlyargs := [], args := [{ arg := "self", annotation := none, pos := p1 }, { arg := f, annotation := none, pos := p2 }], vararg := none, kwonlyargs := [], kw_defaults := [], kwarg := none, defaults := [] }
def bOne (f : Str) (q1 q2 q3 q4 : Pos) : List Stmt := [.Assign [.Attribute (.Name "self" q1) f q2] (.Name f q3) q4]
def sOne (f : Str) : Scope := { kind := .function, names := [(PySem.Str.ofString "self", .local), (f, .local)], isGenerator := false, isCoroutine := false, more := [] }
/-- what the written part says of an own exception class -/
structure XT (K : Frag) (C : Addr) : Prop where
  base : ∃ (B newId initId : String) (bmB : List Value), ExcBaseFacts B newId initId bmB ∧ excInitIn K C bmB newId = true
  opn : ∃ cd, clsIn K C = some cd ∧ Opn cd
  sa : findIn K (.ref C) "__setattr__" = some (some (.builtin "object.__setattr__"))
  ga : findIn K (.ref C) "__getattribute__" = some (some (.builtin "BaseException.__getattribute__"))
  gg : findIn K (.ref C) "__getattr__" = some none
  exC : subIn K (.ref C) (.type "BaseException") = some true
  kC : keepIn K (.ref C) = true
  hd : hasDictIn K C = true
  ac : findIn K (.ref C) "__class__" = some (some (.builtin "object.__class__"))
  gn : specialIn K (.builtin "object.__class__") "__get__" = some (some (.builtin "getset_descriptor.__get__"))
  tk : takesIn K (.builtin "object.__class__") = some true
  mo : mroIn K C (.type "object") = some true
/-- .. and of its __init__, which keeps the one field f -/
structure XI (K : Frag) (C : Addr) (f : Str) : Prop where
  noN : findIn K (.ref C) f = some none
  ne : f ≠ "self"
  fn : ∃ (fI : Addr) (qn : Str) (oc : Value) (od : Option Addr) (doc pm : Value) (an : Option Addr) (cdv ct : Value) (osl : Array (Option Value)) (p1 p2 q1 q2 q3 q4 : Pos),
    findIn K (.ref C) "__init__" = some (some (.ref fI)) ∧ typeIn K (.ref fI) = some (.type "function") ∧
    K.lookup fI = some ⟨oc, od, .func (fnOf "__init__" qn (aOne f p1 p2) (bOne f q1 q2 q3 q4) (sOne f) .none .none doc pm an cdv ct), osl⟩ ∧ codeIn K cdv qn = true ∧
    (∀ s x v, BindsTo s (fnOf "__init__" qn (aOne f p1 p2) (bOne f q1 q2 q3 q4) (sOne f) .none .none doc pm an cdv ct) ⟨[x, v], []⟩ [("self", x), (f, v)]) ∧
    (∀ s x v, BindsTo s (fnOf "__init__" qn (aOne f p1 p2) (bOne f q1 q2 q3 q4) (sOne f) .none .none doc pm an cdv ct) ⟨[x], [(f, v)]⟩ [("self", x), (f, v)])
theorem look_self (f : Str) : (sOne f).names.lookup ("self" : Str) = some NameKind.local := rfl
theorem look_f (f : Str) : (sOne f).names.lookup f = some NameKind.local := by
  show List.lookup f [(PySem.Str.ofString "self", NameKind.local), (f, NameKind.local)] = some .local
  by_cases h : f = PySem.Str.ofString "self"
  · rw [h]
    simp [List.lookup]
  · have e : (f == PySem.Str.ofString "self") = false := by simpa using h
    simp [List.lookup, e]
theorem load_local {M : Model} {s : Shared} {name : Str} {scope : Scope} {L a : Addr} {cd : Value} {m : Str → Option Value} {x : Str} {pos : Pos} {v : Value} {Q : Value → Shared → Prop} {A : Around} {E : Value → Shared → Prop}
    (hk : scope.kind = .function) (hl : scope.names.lookup x = some .local) (hd : (x == ("__debug__" : Str)) = false) (hn : s.heap.Ns L m) (hv : m x = some v) (h : Q v s) :
    wpAny M A (eval (.Name x pos) (envOfC name scope L a cd)) Q E s := wpAny_Name (wpAny_loadName_local hk hl hn hv h) hd
/-- a made exception: e, its own dict at d with the fields m -/
structure Made (h h' : Heap) (e C d : Addr) (m : Str → Option Value) : Prop where
  keep : ∀ b o, h.get? b = some o → h'.get? b = some o
  eb : h.objs.size ≤ e
  db : h.objs.size ≤ d
  ne : d ≠ e
  obj : ∃ t0 : Addr, h'.get? e = some ({ cls := .ref C, dict := some d, data := .fields #[.ref t0, .none, .none, .none, .bool false, .none] } : Obj)
  ns : h'.Ns1 d m
section
variable {prog : Program} {w : World} {A : Around} {E : Value → Shared → Prop} {R : Result → Shared → Prop} {s : Shared} {K : Frag} {C : Addr} {f : Str} {v : Value}
theorem made_one (T : XT K C) (I : XI K C f) (hdb : (f == ("__debug__" : Str)) = false) (X : K.In s.heap) (hlim : s.heap.NoLimit) (room : A.depth + 1 < recursionLimit) (us : List Value) (kw : List (Str × Value)) (hp : (us = [v] ∧ kw = []) ∨ (us = [] ∧ kw = [(f, v)]))
    (hq : ∀ h' tk e d, Made s.heap h' e C d (fun y => if y = f then some v else none) → R (.ok (.ret (.ref e))) { s with heap := h', toks := tk }) :
    codeAny (model prog w) A (.call (.ref C) ⟨us, kw⟩) R s := by
  obtain ⟨B, newId, initId, bmB, F, ini⟩ := T.base
  obtain ⟨cd, hcd, O⟩ := T.opn
  obtain ⟨fI, qn, oc, od, doc, pm, an, cdv, ct, osl, p1, p2, q1, q2, q3, q4, iC, tC, lf, co, b1, b2⟩ := I.fn
  obtain ⟨nm, N, q, bs, bm, hdct, sn, sub, ab, col, dd, k0, k1, k2, k3, k5, gC, hT⟩ := excInit_of X ini
  obtain ⟨hp0, g, dr, tk, os⟩ := s
  have ul : us.length ≤ sizeLine := by
    rcases hp with ⟨rfl, _⟩ | ⟨rfl, _⟩
    · show 1 ≤ sizeLine
      rw [sizeLine_eq]
      decide
    · exact Nat.zero_le _
  have bd : ∀ s x, BindsTo s (fnOf "__init__" qn (aOne f p1 p2) (bOne f q1 q2 q3 q4) (sOne f) .none .none doc pm an cdv ct) ⟨x :: us, kw⟩ [("self", x), (f, v)] := fun s x => by
    rcases hp with ⟨rfl, rfl⟩ | ⟨rfl, rfl⟩
    · exact b1 s x v
    · exact b2 s x v
  have k : ∀ b o, hp0.get? b = some o → ((hp0.push (kdv_tup us)).push (excO C hp0.objs.size)).get? b = some o := fun b o e => Heap.get?_push_of_some _ (Heap.get?_push_of_some _ e)
  have got : ((hp0.push (kdv_tup us)).push (excO C hp0.objs.size)).get? (hp0.objs.size + 1) = some (excO C hp0.objs.size) := by heap_get
  refine called F hT ul gC (looks_findIn X iC) (fun self => bind_fn X self tC) ?_
  have X1 := X.keeps k
  refine Att.call_fn (binds := [("self", .ref (hp0.objs.size + 1)), (f, v)]) (s := ⟨(hp0.push (kdv_tup us)).push (excO C hp0.objs.size), g, dr, tk, os⟩) X1 (hlim.keeps k) lf co ?_ (bd _ _) ?_ (fun s₁ IC => ?_) rfl rfl rfl
  · show A.depth + 1 < recursionLimit
    exact room
  · simp only [List.all_cons, List.all_nil, look_f f, Bool.and_true]
    rfl
  · obtain ⟨h₁, tk₁, rfl⟩ := IC.toInCall.same
    have k1 := IC.toInCall.keep
    have hn := IC.toInCall.ns
    have hx := k1 _ _ got
    have X2 : K.In h₁ := X1.keeps k1
    have e1 : (envOfC qn (sOne f) ((hp0.push (kdv_tup us)).push (excO C hp0.objs.size)).objs.size fI cdv).kindOf "self" = some .local := look_self f
    have e2 : (envOfC qn (sOne f) ((hp0.push (kdv_tup us)).push (excO C hp0.objs.size)).objs.size fI cdv).kindOf f = some .local := look_f f
    show wpAny _ _ (execs _ _) _ _ _
    refine wpAny_execs_cons (plainObj_wpAny_Assign_Attribute ?_)
    refine load_local (v := v) rfl (look_f f) hdb hn ?_ (load_local (v := .ref (hp0.objs.size + 1)) rfl (look_self f) (by decide) hn ?_ ?_)
    · simp only [bindL, e1, e2, if_true]
    · simp only [bindL, e1, e2, if_true]
      rw [if_neg (fun z => I.ne z.symm)]
    refine set_plain X2 (ox := excO C hp0.objs.size) (od := none) ⟨hx, rfl, rfl, trivial⟩ T.sa ?_
    refine first_field X2 hx hcd O I.noN fun h₃ tk₃ dx k₃ dn dne hx₃ hn₃ => ?_
    show wpAny _ _ (execs _ _) _ _ _
    have z0 : hp0.objs.size ≤ h₁.objs.size := Nat.le_of_lt (Nat.lt_of_succ_lt (show hp0.objs.size + 1 < h₁.objs.size from Heap.lt_size hx))
    refine wpAny_execs_nil ⟨rfl, hq h₃ tk₃ (hp0.objs.size + 1) dx ⟨fun b o e => ?_, Nat.le_succ _, Nat.le_trans z0 dn, dne, ⟨_, hx₃⟩, hn₃⟩⟩
    exact k₃ b o (Nat.ne_of_lt (Nat.lt_succ_of_lt (Heap.lt_size e))) (k1 _ _ (k _ _ e))
end
/-! ### two fields -/
def aTwo (f1 f2 : Str) (p1 p2 p3 : Pos) : Arguments := { posonlyargs := [], args := [{ arg := "self", annotation := none, pos := p1 }, { arg := f1, annotation := none, pos := p2 }, { arg := f2, annotation := none, pos := p3 }], vararg := none, kwonlyargs := [], kw_defaults := [], kwarg := none, defaults := [] }
def bTwo (f1 f2 : Str) (q1 q2 q3 q4 r1 r2 r3 r4 : Pos) : List Stmt := [.Assign [.Attribute (.Name "self" q1) f1 q2] (.Name f1 q3) q4, .Assign [.Attribute (.Name "self" r1) f2 r2] (.Name f2 r3) r4]
def sTwo (f1 f2 : Str) : Scope := { kind := .function, names := [(PySem.Str.ofString "self", .local), (f1, .local), (f2, .local)], isGenerator := false, isCoroutine := false, more := [] }
structure XJ (K : Frag) (C : Addr) (f1 f2 : Str) : Prop where
  no1 : findIn K (.ref C) f1 = some none
  no2 : findIn K (.ref C) f2 = some none
  ne1 : f1 ≠ "self"
  ne2 : f2 ≠ "self"
  ne : f1 ≠ f2
  fn : ∃ (fI : Addr) (qn : Str) (oc : Value) (od : Option Addr) (doc pm : Value) (an : Option Addr) (cdv ct : Value) (osl : Array (Option Value)) (p1 p2 p3 q1 q2 q3 q4 r1 r2 r3 r4 : Pos),
    findIn K (.ref C) "__init__" = some (some (.ref fI)) ∧ typeIn K (.ref fI) = some (.type "function") ∧
    K.lookup fI = some ⟨oc, od, .func (fnOf "__init__" qn (aTwo f1 f2 p1 p2 p3) (bTwo f1 f2 q1 q2 q3 q4 r1 r2 r3 r4) (sTwo f1 f2) .none .none doc pm an cdv ct), osl⟩ ∧ codeIn K cdv qn = true ∧
    (∀ s x u v, BindsTo s (fnOf "__init__" qn (aTwo f1 f2 p1 p2 p3) (bTwo f1 f2 q1 q2 q3 q4 r1 r2 r3 r4) (sTwo f1 f2) .none .none doc pm an cdv ct) ⟨[x, u, v], []⟩ [("self", x), (f1, u), (f2, v)]) ∧
    (∀ s x u v, BindsTo s (fnOf "__init__" qn (aTwo f1 f2 p1 p2 p3) (bTwo f1 f2 q1 q2 q3 q4 r1 r2 r3 r4) (sTwo f1 f2) .none .none doc pm an cdv ct) ⟨[x], [(f2, v), (f1, u)]⟩ [("self", x), (f1, u), (f2, v)])
theorem look2_self (f1 f2 : Str) : (sTwo f1 f2).names.lookup ("self" : Str) = some NameKind.local := rfl
theorem look2_1 (f1 f2 : Str) : (sTwo f1 f2).names.lookup f1 = some NameKind.local := by
  show List.lookup f1 [(PySem.Str.ofString "self", NameKind.local), (f1, NameKind.local), (f2, NameKind.local)] = some .local
  by_cases h : f1 = PySem.Str.ofString "self"
  · rw [h]
    simp [List.lookup]
  · have e : (f1 == PySem.Str.ofString "self") = false := by simpa using h
    simp [List.lookup, e]
theorem look2_2 (f1 f2 : Str) : (sTwo f1 f2).names.lookup f2 = some NameKind.local := by
  show List.lookup f2 [(PySem.Str.ofString "self", NameKind.local), (f1, NameKind.local), (f2, NameKind.local)] = some .local
  by_cases h : f2 = PySem.Str.ofString "self"
  · rw [h]
    simp [List.lookup]
  · have e : (f2 == PySem.Str.ofString "self") = false := by simpa using h
    by_cases h1 : f2 = f1
    · subst h1
      simp [List.lookup, e]
    · have e1 : (f2 == f1) = false := by simpa using h1
      simp [List.lookup, e, e1]
section
variable {prog : Program} {w : World} {A : Around} {E : Value → Shared → Prop} {R : Result → Shared → Prop} {s : Shared} {K : Frag} {C : Addr} {f1 f2 : Str} {u v : Value}
theorem made_two (T : XT K C) (I : XJ K C f1 f2) (hd1 : (f1 == ("__debug__" : Str)) = false) (hd2 : (f2 == ("__debug__" : Str)) = false) (X : K.In s.heap) (hlim : s.heap.NoLimit) (room : A.depth + 1 < recursionLimit) (us : List Value) (kw : List (Str × Value))
    (hp : (us = [u, v] ∧ kw = []) ∨ (us = [] ∧ kw = [(f2, v), (f1, u)]))
    (hq : ∀ h' tk e d, Made s.heap h' e C d (fun y => if y = f2 then some v else if y = f1 then some u else none) → R (.ok (.ret (.ref e))) { s with heap := h', toks := tk }) :
    codeAny (model prog w) A (.call (.ref C) ⟨us, kw⟩) R s := by
  obtain ⟨B, newId, initId, bmB, F, ini⟩ := T.base
  obtain ⟨cd, hcd, O⟩ := T.opn
  obtain ⟨fI, qn, oc, od, doc, pm, an, cdv, ct, osl, p1, p2, p3, q1, q2, q3, q4, r1, r2, r3, r4, iC, tC, lf, co, b1, b2⟩ := I.fn
  obtain ⟨nm, N, q, bs, bm, hdct, sn, sub, ab, col, dd, k0, k1, k2, k3, k5, gC, hT⟩ := excInit_of X ini
  obtain ⟨hp0, g, dr, tk, os⟩ := s
  have ul : us.length ≤ sizeLine := by
    rcases hp with ⟨rfl, _⟩ | ⟨rfl, _⟩
    · show 2 ≤ sizeLine
      rw [sizeLine_eq]
      decide
    · exact Nat.zero_le _
  have bd : ∀ s x, BindsTo s (fnOf "__init__" qn (aTwo f1 f2 p1 p2 p3) (bTwo f1 f2 q1 q2 q3 q4 r1 r2 r3 r4) (sTwo f1 f2) .none .none doc pm an cdv ct) ⟨x :: us, kw⟩ [("self", x), (f1, u), (f2, v)] := fun s x => by
    rcases hp with ⟨rfl, rfl⟩ | ⟨rfl, rfl⟩
    · exact b1 s x u v
    · exact b2 s x u v
  have k : ∀ b o, hp0.get? b = some o → ((hp0.push (kdv_tup us)).push (excO C hp0.objs.size)).get? b = some o := fun b o e => Heap.get?_push_of_some _ (Heap.get?_push_of_some _ e)
  have got : ((hp0.push (kdv_tup us)).push (excO C hp0.objs.size)).get? (hp0.objs.size + 1) = some (excO C hp0.objs.size) := by heap_get
  refine called F hT ul gC (looks_findIn X iC) (fun self => bind_fn X self tC) ?_
  have X1 := X.keeps k
  refine Att.call_fn (binds := [("self", .ref (hp0.objs.size + 1)), (f1, u), (f2, v)]) (s := ⟨(hp0.push (kdv_tup us)).push (excO C hp0.objs.size), g, dr, tk, os⟩) X1 (hlim.keeps k) lf co ?_ (bd _ _) ?_ (fun s₁ IC => ?_) rfl rfl rfl
  · show A.depth + 1 < recursionLimit
    exact room
  · simp only [List.all_cons, List.all_nil, look2_1 f1 f2, look2_2 f1 f2, Bool.and_true]
    rfl
  · obtain ⟨h₁, tk₁, rfl⟩ := IC.toInCall.same
    have k1 := IC.toInCall.keep
    have hn := IC.toInCall.ns
    have hx := k1 _ _ got
    have X2 : K.In h₁ := X1.keeps k1
    have e0 : (envOfC qn (sTwo f1 f2) ((hp0.push (kdv_tup us)).push (excO C hp0.objs.size)).objs.size fI cdv).kindOf "self" = some .local := look2_self f1 f2
    have e1 : (envOfC qn (sTwo f1 f2) ((hp0.push (kdv_tup us)).push (excO C hp0.objs.size)).objs.size fI cdv).kindOf f1 = some .local := look2_1 f1 f2
    have e2 : (envOfC qn (sTwo f1 f2) ((hp0.push (kdv_tup us)).push (excO C hp0.objs.size)).objs.size fI cdv).kindOf f2 = some .local := look2_2 f1 f2
    show wpAny _ _ (execs _ _) _ _ _
    refine wpAny_execs_cons (plainObj_wpAny_Assign_Attribute ?_)
    refine load_local (v := u) rfl (look2_1 f1 f2) hd1 hn ?_ (load_local (v := .ref (hp0.objs.size + 1)) rfl (look2_self f1 f2) (by decide) hn ?_ ?_)
    · simp only [bindL, e0, e1, e2, if_true]
      rw [if_neg I.ne]
    · simp only [bindL, e0, e1, e2, if_true]
      rw [if_neg (fun z => I.ne2 z.symm), if_neg (fun z => I.ne1 z.symm)]
    refine set_plain X2 (ox := excO C hp0.objs.size) (od := none) ⟨hx, rfl, rfl, trivial⟩ T.sa ?_
    refine first_field X2 hx hcd O I.no1 fun h₃ tk₃ dx k₃ dn dne hx₃ hn₃ => ?_
    have z1 : hp0.objs.size + 1 < h₁.objs.size := Heap.lt_size hx
    have z0 : hp0.objs.size ≤ h₁.objs.size := Nat.le_of_lt (Nat.lt_of_succ_lt z1)
    have nx : ∀ {b : Addr} {o : Obj}, hp0.get? b = some o → b ≠ hp0.objs.size + 1 := fun {b o} e => Nat.ne_of_lt (Nat.lt_succ_of_lt (Heap.lt_size e))
    have Lx : ((hp0.push (kdv_tup us)).push (excO C hp0.objs.size)).objs.size ≠ hp0.objs.size + 1 := by
      rw [Heap.size_push,
            Heap.size_push]
      exact Nat.succ_ne_self _
    have hn3 : h₃.Ns ((hp0.push (kdv_tup us)).push (excO C hp0.objs.size)).objs.size _ := Heap.Ns.at hn fun o e => k₃ _ o Lx e
    have X3 : K.In h₃ := fun b o e => k₃ b o (nx (X _ _ e)) (X2 b o e)
    show wpAny _ _ (execs _ _) _ _ _
    refine wpAny_execs_cons (plainObj_wpAny_Assign_Attribute ?_)
    refine load_local (v := v) rfl (look2_2 f1 f2) hd2 hn3 ?_ (load_local (v := .ref (hp0.objs.size + 1)) rfl (look2_self f1 f2) (by decide) hn3 ?_ ?_)
    · simp only [bindL, e0, e1, e2, if_true]
    · simp only [bindL, e0, e1, e2, if_true]
      rw [if_neg (fun z => I.ne2 z.symm), if_neg (fun z => I.ne1 z.symm)]
    have hw : Within (fun y => if y = f1 then some u else none) [f1] := fun y hy => by
      by_cases e : y = f1
      · rw [e]
        exact List.mem_cons_self ..
      · exact absurd (if_neg e) hy
    obtain ⟨oD, _, _, hoD, _, _⟩ := hn₃.count hw
    refine set_plain X3 (ox := { cls := .ref C, dict := some dx, data := .fields #[.ref hp0.objs.size, .none, .none, .none, .bool false, .none] }) (od := some oD) ⟨hx₃, rfl, rfl, hoD⟩ T.sa ?_
    refine next_field X3 hx₃ hn₃ hw (by show 1 ≤ 1000; decide) hcd O I.no2 fun h₄ tk₄ k₄ hn₄ => ?_
    show wpAny _ _ (execs _ _) _ _ _
    have nd : ∀ {b : Addr} {o : Obj}, hp0.get? b = some o → b ≠ dx := fun {b o} e => Nat.ne_of_lt (Nat.lt_of_lt_of_le (Nat.lt_of_lt_of_le (Heap.lt_size e) z0) dn)
    refine wpAny_execs_nil ⟨rfl, hq h₄ tk₄ (hp0.objs.size + 1) dx ⟨fun b o e => ?_, Nat.le_succ _, Nat.le_trans z0 dn, dne, ⟨_, k₄ _ _ (Ne.symm dne) hx₃⟩, hn₄⟩⟩
    exact k₄ b o (nd e) (k₃ b o (nx e) (k1 _ _ (k _ _ e)))
end
end XK
end
section
set_option Elab.async false
set_option linter.all false
set_option maxRecDepth 100000
set_option maxHeartbeats 4100000
namespace XK
open PySem PySem.Spec PyProof.Rows L2
section
variable {X : Cx} {pins : List (Addr × Obj)} {σ : L2.St} {H : Hp} {s : Shared} {C : Addr}
/-- a made exception is tracked, and its own dict -/
theorem tracked {h' : Heap} {e d : Addr} {m : Str → Option Value} {fs : List (Str × V)} (t' : Nat) (I : Inv X pins σ H s) (M : Made s.heap h' e C d m) (r : ∀ f, RelO (fs.lookup f) (m f)) :
    Inv X pins σ (upd (upd H d (.xd fs)) e (exo e C (some d))) { s with heap := h', toks := t' } := by
  have nd : H d = none := I.hok.fresh M.db
  have ne : H e = none := I.hok.fresh M.eb
  have ned : upd H d (.xd fs) e = none := by
    rw [upd_ne (Ne.symm M.ne)]
    exact ne
  have U1 : Un X.fs [] H (upd H d (.xd fs)) s.heap s.heap := Un.laid (fun _ _ q => q) M.db nd
  have U2 : Un X.fs [] (upd H d (.xd fs)) (upd (upd H d (.xd fs)) e (exo e C (some d))) s.heap h' := Un.laid M.keep M.eb ned
  obtain ⟨t0, ho⟩ := M.obj
  refine I.un (t' := t') (U1.trans U2) fun b o q => ?_
  by_cases hb : b = e
  · subst hb
    rw [upd_same] at q
    cases q
    exact exo_ok ho
  · rw [upd_ne hb] at q
    by_cases hd : b = d
    · subst hd
      rw [upd_same] at q
      cases q
      exact ⟨m, M.ns, r⟩
    · rw [upd_ne hd] at q
      refine (I.hok b o q).stay (fun c v _ z => M.keep c v z) (fun c z => ?_) fun c xs z => ?_
      · rw [upd_ne (ne_of_none z ne), upd_ne (ne_of_none z nd)]
        exact z
      · rw [upd_ne (ne_of_none z ne), upd_ne (ne_of_none z nd)]
        exact z
theorem rel_one {f : Str} {y : V} {u : Value} (r : RelV y u) (g : Str) : RelO ([(f, y)].lookup g) (if g = f then some u else none) := relO_put (fs := []) (mA := fun _ => none) r (fun _ => trivial) g
theorem rel_two {f1 f2 : Str} {y z : V} {u v : Value} (r : RelV y u) (r' : RelV z v) (g : Str) : RelO ([(f2, z), (f1, y)].lookup g) (if g = f2 then some v else if g = f1 then some u else none) :=
  relO_put (fs := [(f1, y)]) r' (rel_one r) g
/-- what follows a made exception -/
def Then1 (C : Addr) (f : Str) (v : V) (H : Hp) (Q : VK) : Prop := ∀ d e, H d = none → H e = none → d ≠ e → Q (.ref e) (upd (upd H d (.xd [(f, v)])) e (exo e C (some d)))
def Then2 (C : Addr) (f1 f2 : Str) (u v : V) (H : Hp) (Q : VK) : Prop := ∀ d e, H d = none → H e = none → d ≠ e → Q (.ref e) (upd (upd H d (.xd [(f2, v), (f1, u)])) e (exo e C (some d)))
def tEx1 (C : Addr) (f : Str) (ta : TA) : TE := fun σ H Q => ta σ H fun vs H1 => ∃ v, vs = [v] ∧ Then1 C f v H1 Q
def tEx2 (C : Addr) (f1 f2 : Str) (ta : TA) : TE := fun σ H Q => ta σ H fun vs H1 => ∃ u v, vs = [u, v] ∧ Then2 C f1 f2 u v H1 Q
def tEx2k (C : Addr) (f1 f2 : Str) (ta : TA) : TE := fun σ H Q => ta σ H fun vs H1 => ∃ v u, vs = [v, u] ∧ Then2 C f1 f2 u v H1 Q
end
section
variable {X : Cx} {x f f1 f2 : Str} {C : Addr} {k : Nat} {a b : Expr} {ta : TA} {te : TE} {p pos k1 k2 : Pos}
/-- x(a), an own exception class whose __init__ keeps one field -/
theorem pe_ex1 (T : XT X.K C) (J : XI X.K C f) (hr : Room k X.A) (gC : X.mg x = some (.ref C)) (hfd : (f == ("__debug__" : Str)) = false) (ha : PA X [a] ta) (hg : Gl X x := by rfl) (hdb : (x == ("__debug__" : Str)) = false := by decide)
    (he : starEach (a :: []) X.env = (false, eval a X.env) :: starEach [] X.env := by rfl) (hpl : (backTo pos (starEach [] X.env)).any (·.1) = false := by rfl) :
    PE X (.Call (.Name x p) [a] [] pos) (tEx1 C f ta) := by
  refine ⟨fun pins s σ H Q I h => ?_⟩
  refine wpAny_Call_Name_kw
        (ld_glob I hg gC ?_ hdb)
  refine PySem.W.callWith_K (h₀ := X.base) I.ok.mod.kin T.kC (thn (ha.run pos pins s σ H _ I h) fun us s1 hh => ?_) he hpl
  obtain ⟨vs, H1, I1, r1, v, ev, q1⟩ := hh
  subst ev
  refine ⟨I1.kIn, ?_⟩
  cases r1 with
  | cons rv rn =>
    rename_i v' us'
    cases rn
    show wpAny _ _ (call (.ref C) [v']) _ _ _
    refine wpAny_call (made_one (v := v') T J hfd I1.kIn I1.nolimit (by have := hr.dp; omega) [v'] [] (.inl ⟨rfl, rfl⟩) fun h' tk e d M => ?_)
    exact ⟨.ref e, _, tracked tk I1 M (rel_one rv), rfl, q1 d e (I1.hok.fresh M.db) (I1.hok.fresh M.eb) M.ne⟩
/-- x(f = a) -/
theorem pe_ex1k (T : XT X.K C) (J : XI X.K C f) (hr : Room k X.A) (gC : X.mg x = some (.ref C)) (hfd : (f == ("__debug__" : Str)) = false) (ha : PE X a te) (hg : Gl X x := by rfl) (hdb : (x == ("__debug__" : Str)) = false := by decide)
    (hpl : ((backTo pos (starEach [] X.env)).any (·.1) || (backToKw pos (keywordEach [⟨some f, a, k1⟩] X.env)).any (·.1.isNone)) = false := by rfl) :
    PE X (.Call (.Name x p) [] [⟨some f, a, k1⟩] pos) (tEx1 C f (tCons te tNil)) := by
  refine ⟨fun pins s σ H Q I h => ?_⟩
  refine wpAny_Call_Name_kw
        (ld_glob I hg gC ?_ hdb)
  refine PySem.W.callWith_KW0 (h₀ := X.base) I.ok.mod.kin T.kC rfl ?_ hpl
  refine thn ((pk_cons ha pk_nil).run pos pins s σ H _ I h) fun us s1 hh => ?_
  obtain ⟨vs, H1, I1, r1, v, ev, q1⟩ := hh
  subst ev
  refine ⟨I1.kIn, ?_⟩
  cases r1 with
  | cons rv rn =>
    rename_i v' us'
    cases rn
    show wpAny _ _ (call (.ref C) [] [(f, v')]) _ _ _
    refine wpAny_call (made_one (v := v') T J hfd I1.kIn I1.nolimit (by have := hr.dp; omega) [] [(f, v')] (.inr ⟨rfl, rfl⟩) fun h' tk e d M => ?_)
    exact ⟨.ref e, _, tracked tk I1 M (rel_one rv), rfl, q1 d e (I1.hok.fresh M.db) (I1.hok.fresh M.eb) M.ne⟩
/-- x(a, b) -/
theorem pe_ex2 (T : XT X.K C) (J : XJ X.K C f1 f2) (hr : Room k X.A) (gC : X.mg x = some (.ref C)) (h1 : (f1 == ("__debug__" : Str)) = false) (h2 : (f2 == ("__debug__" : Str)) = false) (ha : PA X [a, b] ta) (hg : Gl X x := by rfl) (hdb : (x == ("__debug__" : Str)) = false := by decide)
    (he : starEach (a :: [b]) X.env = (false, eval a X.env) :: starEach [b] X.env := by rfl) (hpl : (backTo pos (starEach [b] X.env)).any (·.1) = false := by rfl) :
    PE X (.Call (.Name x p) [a, b] [] pos) (tEx2 C f1 f2 ta) := by
  refine ⟨fun pins s σ H Q I h => ?_⟩
  refine wpAny_Call_Name_kw
        (ld_glob I hg gC ?_ hdb)
  refine PySem.W.callWith_K (h₀ := X.base) I.ok.mod.kin T.kC (thn (ha.run pos pins s σ H _ I h) fun us s1 hh => ?_) he hpl
  obtain ⟨vs, H1, I1, r1, u, v, ev, q1⟩ := hh
  subst ev
  refine ⟨I1.kIn, ?_⟩
  cases r1 with
  | @cons _ u' _ _ ru rn =>
    cases rn with
    | @cons _ v' _ _ rv rn =>
      cases rn
      show wpAny _ _ (call (.ref C) [u', v']) _ _ _
      refine wpAny_call (made_two (u := u') (v := v') T J h1 h2 I1.kIn I1.nolimit (by have := hr.dp; omega) [u', v'] [] (.inl ⟨rfl, rfl⟩) fun h' tk e d M => ?_)
      exact ⟨.ref e, _, tracked tk I1 M (rel_two ru rv), rfl, q1 d e (I1.hok.fresh M.db) (I1.hok.fresh M.eb) M.ne⟩
/-- x(f2 = b, f1 = a) -/
theorem pe_ex2k {te1 te2 : TE} (T : XT X.K C) (J : XJ X.K C f1 f2) (hr : Room k X.A) (gC : X.mg x = some (.ref C)) (h1 : (f1 == ("__debug__" : Str)) = false) (h2 : (f2 == ("__debug__" : Str)) = false) (hb : PE X b te2) (ha : PE X a te1) (hg : Gl X x := by rfl) (hdb : (x == ("__debug__" : Str)) = false := by decide)
    (hpl : ((backTo pos (starEach [] X.env)).any (·.1) || (backToKw pos (keywordEach [⟨some f2, b, k2⟩, ⟨some f1, a, k1⟩] X.env)).any (·.1.isNone)) = false := by rfl) :
    PE X (.Call (.Name x p) [] [⟨some f2, b, k2⟩, ⟨some f1, a, k1⟩] pos) (tEx2k C f1 f2 (tCons te2 (tCons te1 tNil))) := by
  refine ⟨fun pins s σ H Q I h => ?_⟩
  refine wpAny_Call_Name_kw
        (ld_glob I hg gC ?_ hdb)
  refine PySem.W.callWith_KW0 (h₀ := X.base) I.ok.mod.kin T.kC rfl ?_ hpl
  refine thn ((pk_cons hb (pk_cons ha pk_nil)).run pos pins s σ H _ I h) fun us s1 hh => ?_
  obtain ⟨vs, H1, I1, r1, v, u, ev, q1⟩ := hh
  subst ev
  refine ⟨I1.kIn, ?_⟩
  cases r1 with
  | @cons _ v' _ _ rv rn =>
    cases rn with
    | @cons _ u' _ _ ru rn =>
      cases rn
      show wpAny _ _ (call (.ref C) [] [(f2, v'), (f1, u')]) _ _ _
      refine wpAny_call (made_two (u := u') (v := v') T J h1 h2 I1.kIn I1.nolimit (by have := hr.dp; omega) [] [(f2, v'), (f1, u')] (.inr ⟨rfl, rfl⟩) fun h' tk e d M => ?_)
      exact ⟨.ref e, _, tracked tk I1 M (rel_two ru rv), rfl, q1 d e (I1.hok.fresh M.db) (I1.hok.fresh M.eb) M.ne⟩
/-- x(), an own exception class without __init__ -/
def tEx0 (C : Addr) : TE := fun σ H Q => ∀ e, H e = none → Q (.ref e) (upd H e (exo e C none))
theorem pe_ex0 {B newId initId : String} {bmB : List Value} (F : ExcBaseFacts B newId initId bmB) (q : PySem.W.excIn X.K C bmB newId = true) (gC : X.mg x = some (.ref C)) (kC : PySem.W.keepIn X.K (.ref C) = true) (hg : Gl X x := by rfl) (hdb : (x == ("__debug__" : Str)) = false := by decide) :
    PE X (.Call (.Name x p) [] [] pos) (tEx0 C) := by
  refine ⟨fun pins s σ H Q I h => ?_⟩
  refine wpAny_Call_Name_kw
        (ld_glob I hg gC ?_ hdb)
  refine PySem.W.callWith_K0 I.kIn kC ?_
  show wpAny _ _ (call (.ref C) []) _ _ _
  obtain ⟨bm, N, nm, qn, bs, hdct, sn, sub, ab, col, dd, k0, k1, k2, k3, k5, mN, hC, hN, hni, T⟩ := exc_obj I.kIn q
  obtain ⟨hp, g, dr, tk, os⟩ := s
  refine wpAny_call_exc_subT F T hC hN hni (fun h' a hm => ?_) (Nat.zero_le _)
  have hn : H a = none := I.hok.gone hm.new
  obtain ⟨t, ht, _,
        _⟩ := hm.there
  exact ⟨.ref a, upd H a (exo a C none), I.laidN hm.keeps hm.new hn (exo_ok (t1 := t) ht), rfl, h a hn⟩
/-- e.f, e an exception that is told, f one of its fields -/
def tGetX (K : PySem.W.Frag) (f : Str) (te : TE) : TE := fun σ H Q => te σ H fun y H1 => ∃ (e C d : Addr) (fs : List (Str × V)) (v : V), y = .ref e ∧ XT K C ∧ PySem.W.findIn K (.ref C) f = some none ∧ H1 e = some (exo e C (some d)) ∧ H1 d = some (.xd fs) ∧ fs.lookup f = some v ∧ Q v H1
theorem pe_getX {te : TE} (he : PE X a te) (hb : attributeBase a f X.env (eval a X.env) = eval a X.env := by rfl) : PE X (.Attribute a f pos) (tGetX X.K f te) := by
  refine ⟨fun pins s σ H Q I h => ?_⟩
  refine attr_of hb (thn (he.run pins s σ H _ I h) fun u s1 hh => ?_)
  obtain ⟨y, H1, I1, rx, e, C, d, fs, v, ey, T, no, ea, ed, l, q⟩ := hh
  subst ey
  obtain rfl : u = Value.ref e := rx
  obtain ⟨t0, ho⟩ := exo_at I1.hok ea
  obtain ⟨mA, hns, hrel⟩ := (show ObjOk X.prog X.w H1 s1.heap d (.xd fs) from I1.hok d _ ed)
  obtain ⟨od, hod, hl⟩ := lookIn_ns hns
  obtain ⟨w, hw, rw'⟩ := RelO.some_of (v := v) (o := mA f) (by rw [← l]; exact hrel f)
  have J : PySem.W.InstAt s1.heap e _ C (some od) := ⟨ho, rfl, rfl, hod⟩
  exact HandSPX.exc_get I1.kIn J T.ga T.gg T.exC (PySem.W.findObj_own T.hd no rfl (by rw [hl, hw])) (handed_of rw') ⟨v, H1, I1.tok _, rw', q⟩
/-- isinstance(e, c), e an exception that is told -/
def rIsX (K : PySem.W.Frag) : List V → Hp → VK → Prop := fun xs H Q => ∃ (e C : Addr) (d : Option Addr) (c : V) (u : Value) (r : Bool), xs = [.ref e, c] ∧ ClsV c u ∧ XT K C ∧ H e = some (exo e C d) ∧ (∀ dd, d = some dd → ∃ fs, H dd = some (.xd fs)) ∧ PySem.W.kitOne K (.ref C) u = some r ∧ Q (.bl r) H
theorem call_isX : CallR X (.builtin "isinstance") (rIsX X.K) := by
  intro pins s σ
        H xs us Q I r h
  obtain ⟨e, C, d, c, u, z, rfl, k, T, ea, hd, ek, q⟩ := h
  obtain ⟨u1, u2, rfl,
        r1, r2⟩ := vals2 r
  have e2 := k.eq r2
  subst e2
  cases (show u1 = Value.ref e from r1)
  obtain ⟨t0, ho⟩ := exo_at I.hok ea
  have J : ∃ od, PySem.W.InstAt s.heap e ({ cls := .ref C, dict := d, data := .fields #[.ref t0, .none, .none, .none, .bool false, .none] } : Obj) C od := by
    cases d with
    | none => exact ⟨none, ho, rfl, rfl, trivial⟩
    | some dd =>
      obtain ⟨fs, hf⟩ := hd dd rfl
      obtain ⟨mA, hns, _⟩ := (show ObjOk X.prog X.w H s.heap dd (.xd fs) from I.hok dd _ hf)
      obtain ⟨od, hod, _⟩ := lookIn_ns hns
      exact ⟨some od, ho, rfl, rfl, hod⟩
  obtain ⟨od, J⟩ := J
  have hc : (PySem.W.clsIn
        X.K C).isSome = true := by
    obtain ⟨cd, h1, _⟩ := T.opn
    rw [h1]
    rfl
  exact PySem.W.kia_one (PySem.W.kitx_exc hc T.ga T.gg T.exC T.ac T.gn T.tk T.mo) I.kIn J ek (fun z => nomatch z) fun tk => ⟨.bl z, H, I.tok tk, rfl, q⟩
end
end XK
end
section
set_option Elab.async false
set_option linter.all false
set_option maxRecDepth 100000
set_option maxHeartbeats 4100000
namespace XK
open PySem PySem.Spec PyProof.Rows L2
/-! ### repr of data -/
/-- what v is as data, dicts with keys of text or int at the outside as well -/
def flatD : PyData → Bool
  | .none => true
  | .bool _ => true
  | .int _ => true
  | .str _ => true
  | _ => false
theorem flat_reads {h : Heap} {u : Value} {d : PyData} {as : List Addr} (r : Reads h u d as) (f : flatD d = true) : as = [] := by
  cases r <;> first | rfl | cases f
theorem flats_read {h : Heap} : ∀ {us : List Value} {ds : List PyData} {as : List Addr}, ReadsAll h us ds as → ds.all flatD = true → as = []
  | _, _, _, .nil, _ => rfl
  | _, _, _, .cons r t, f => by
    rw [List.all_cons,
          Bool.and_eq_true] at f
    rw [flat_reads r f.1, flats_read t f.2]
    rfl
inductive DX (K : PySem.W.Frag) (H : Hp) : V → PyData → Prop
  | dp {v : V} {d : PyData} : Dp K H v d → DX K H v d
  | dc {a : Addr} {kvs : List (Key × V)} {ks vs : List PyData} : H a = some (.dK kvs) → DpAll K H (kvs.map fun p => kV p.1) ks → DpAll K H (kvs.map (·.2)) vs → ks.all flatD = true → vs.all flatD = true → DX K H (.ref a) (.dict (ks.zip vs))
inductive DXAll (K : PySem.W.Frag) (H : Hp) : List V → List PyData → Prop
  | nil : DXAll K H [] []
  | cons {v : V} {vs : List V} {d : PyData} {ds : List PyData} : DX K H v d → DXAll K H vs ds → DXAll K H (v :: vs) (d :: ds)
mutual
theorem noD {K : PySem.W.Frag} {H : Hp} : ∀ (d : PyData) (v : V), Dp K H v d → d.hasDict = false
  | .none, _, _ => by simp [PyData.hasDict]
  | .bool _, _, _ => by simp [PyData.hasDict]
  | .int _, _, _ => by simp [PyData.hasDict]
  | .str _, _, _ => by simp [PyData.hasDict]
  | .list ds, _, h => by
    cases h with
    | lst _ ha =>
      unfold PyData.hasDict
      exact noDs ds _ ha
  | .tuple ds, _, h => by
    cases h with
    | tup _ ha =>
      unfold PyData.hasDict
      exact noDs ds _ ha
  | .dict _, _, h => by cases h
theorem noDs {K : PySem.W.Frag} {H : Hp} : ∀ (ds : List PyData) (vs : List V), DpAll K H vs ds → PyData.hasDictAll ds = false
  | [], _, _ => by simp [PyData.hasDictAll]
  | d :: ds, _, h => by
    cases h with
    | cons a b =>
      unfold PyData.hasDictAll
      rw [noD d _ a, noDs ds _ b]
      rfl
end
theorem dpAll_length {K : PySem.W.Frag} {H : Hp} : ∀ {vs : List V} {ds : List PyData}, DpAll K H vs ds → vs.length = ds.length
  | _, _, .nil => rfl
  | _, _, .cons _ h => congrArg Nat.succ (dpAll_length h)
section
variable {X : Cx} {pins : List (Addr ×
      Obj)} {σ : L2.St} {H : Hp} {s : Shared}
theorem pairs_vals {P : Program} {w : World} : ∀ {kvs : List (Key × V)} {vs : List (Key × Value)} {es : List DictEntry}, KV kvs vs → Pairs (mixKind P w) es vs →
    Vals (kvs.map fun p => kV p.1) (es.map (·.key)) ∧ Vals (kvs.map (·.2)) (es.map (·.val))
  | _, _, _, .nil, .nil => ⟨.nil, .nil⟩
  | _, _, _, .cons r t, .cons hk hv hp => by
    obtain ⟨a, b⟩ := pairs_vals t hp
    obtain ⟨r1, r2⟩ := r
    refine ⟨.cons ?_ a, .cons ?_ b⟩
    · show RelV (kV _) _
      rw [r1]
      rcases keyIs_shape (show keyIs _ _ = true from hk) with ⟨i, tk, e1, e2⟩ | ⟨x, tk, e1, e2⟩
      · rw [e1]
        show RelV _ (DictEntry.key _)
        rw [e2]
        exact ⟨tk, rfl⟩
      · rw [e1]
        show RelV _ (DictEntry.key _)
        rw [e2]
        exact ⟨tk, rfl⟩
    · show RelV _ (DictEntry.val _)
      rw [hv]
      exact r2
theorem zip_fst : ∀ {ks vs : List PyData}, ks.length = vs.length → (ks.zip vs).map (·.1) = ks
  | [], [], _ => rfl
  | k :: ks, v :: vs, h => by
    rw [List.zip_cons_cons, List.map_cons, zip_fst (Nat.succ.inj h)]
theorem zip_snd : ∀ {ks vs : List PyData}, ks.length = vs.length → (ks.zip vs).map (·.2) = vs
  | [], [], _ => rfl
  | k :: ks, v :: vs, h => by
    rw [List.zip_cons_cons, List.map_cons, zip_snd (Nat.succ.inj h)]
/-- read off the heap; no address but lists' is met that may be the modules' dict -/
theorem DX.reads (I : Inv X pins σ H s) {v : V} {d : PyData} {u : Value} (h : DX X.K H v d) (r : RelV v u) : ∃ as, Reads s.heap u d as ∧ (d.hasDict = true → sysModules ∉ as) := by
  cases h with
  | dp h =>
    obtain ⟨as, q⟩ := Dp.reads I _ _ _ h r
    exact ⟨as, q, fun z => by rw [noD _ _ h] at z; cases z⟩
  | @dc a kvs ks vs ha hk hv fk fv =>
    cases (show u = Value.ref a from r)
    obtain ⟨_, hsys, us, rel, o, es, ep, ho, hx, hd, _, hp, _⟩ := (show ObjOk X.prog X.w H s.heap a (.dK kvs) from I.hok a _ ha)
    obtain ⟨rk, rv⟩ := pairs_vals rel hp
    obtain ⟨as, q1⟩ := Dp.readsAll I ks _ _ hk rk
    obtain ⟨bs, q2⟩ := Dp.readsAll I vs _ _ hv rv
    have hl : ks.length = vs.length := by
      rw [← dpAll_length hk, ← dpAll_length hv, List.length_map, List.length_map]
    refine ⟨a :: as ++ bs, Reads.dict ho hx.1 hd (by rw [zip_fst hl]; exact q1) (by rw [zip_snd hl]; exact q2), fun _ hm => ?_⟩
    rw [flats_read q1 fk, flats_read q2 fv] at hm
    have e : sysModules = a := by simpa using hm
    rw [e] at hsys
    simp at hsys
theorem DXAll.reads {b : Bool} (I : Inv X pins σ H s) : ∀ {vs : List V} {ds : List PyData} {us : List Value}, DXAll X.K H vs ds → (∀ d ∈ ds, d.hasDict = b) → Vals vs us → ∃ as, ReadsAll s.heap us ds as ∧ (b = true → sysModules ∉ as)
  | _, _, _, .nil, _, .nil => ⟨[], .nil, fun _ h => by cases h⟩
  | _, _, _, .cons a r, e, .cons q t => by
    obtain ⟨as, h1, n1⟩ := a.reads I q
    obtain ⟨bs, h2, n2⟩ := DXAll.reads I r (fun d hd => e d (List.mem_cons_of_mem _ hd)) t
    refine ⟨as ++ bs, .cons h1 h2, fun hb hm => ?_⟩
    rcases List.mem_append.mp hm with z | z
    · exact n1 ((e _ (List.mem_cons_self ..)).trans hb) z
    · exact n2 hb z
theorem dictAll_of {b : Bool} : ∀ {ds : List PyData}, (∀ d ∈ ds, d.hasDict = b) → PyData.hasDictAll ds = true → b = true
  | [], _, h => by
    unfold PyData.hasDictAll at h
    cases h
  | d :: ds, e, h => by
    unfold PyData.hasDictAll at h
    rw [Bool.or_eq_true] at h
    rcases h with h | h
    · rw [e d (List.mem_cons_self ..)] at h
      exact h
    · exact dictAll_of (fun x hx => e x (List.mem_cons_of_mem _ hx)) h
end
/-- the answer's size and depth are small -/
structure Shows (d : PyData) : Prop where
  sh : d.showable = true
  sz : d.shown.length ≤ sizeLine
  dp : d.depth ≤ 60
def rRepr (K : PySem.W.Frag) : List V → Hp → VK → Prop := fun xs H Q => ∃ v d, xs = [v] ∧ DX K H v d ∧ Shows d ∧ Q (.str d.shown) H
section
variable {X : Cx}
theorem call_repr (hg : X.A.guards = some []) (hu : X.A.units + 64 < cLine) : CallR X (.builtin "repr") (rRepr X.K) := by
  intro pins s σ
        H xs us Q I r h
  obtain ⟨v, d, rfl, hd, S, q⟩ := h
  cases r with
  | @cons _ u _ _ rv rn =>
    cases rn
    obtain ⟨as, hr, hs⟩ := hd.reads I rv
    have fin : ∀ h' t k, (∀ b o, s.heap.get? b = some o → h'.get? b = some o) → EP X pins σ Q (.str d.shown t) { s with heap := h', toks := k } := fun h' t k kk => ⟨.str d.shown, H, I.kept kk, ⟨_, rfl⟩, q⟩
    cases hr with
    | none => exact PySem.P.repr_of_none (by rw [PyData.shown_none] at fin; exact fin s.heap s.toks _ fun _ _ z => z)
    | bool b => exact PySem.P.repr_of_bool (by rw [PyData.shown_bool] at fin; exact fin s.heap s.toks _ fun _ _ z => z)
    | int i t =>
      have hi : i.natAbs.log2 < 1920 := by
        have z := S.sh
        unfold PyData.showable at z
        exact of_decide_eq_true z
      exact PySem.P.repr_of_int hi (by rw [PyData.shown_int] at fin; exact fin s.heap s.toks _ fun _ _ z => z)
    | str x t =>
      have z := S.sz
      rw [PyData.shown_str] at z fin
      exact PySem.P.repr_of_str (fin s.heap s.toks _ fun _ _ z => z) z
    | list h1 h2 h3 h4 => exact repr_of_reads' (.list h1 h2 h3 h4) S.sh hs hg (by have := S.dp; omega) (fun _ _ z => z) (fun h' t k kk => fin h' t k kk) S.sz
    | tuple h1 h2 h3 h4 => exact repr_of_reads' (.tuple h1 h2 h3 h4) S.sh hs hg (by have := S.dp; omega) (fun _ _ z => z) (fun h' t k kk => fin h' t k kk) S.sz
    | dict h1 h2 h3 h4 h5 => exact repr_of_reads' (.dict h1 h2 h3 h4 h5) S.sh hs hg (by have := S.dp; omega) (fun _ _ z => z) (fun h' t k kk => fin h' t k kk) S.sz
/-- repr of a list that was laid in the call: not the modules' dict -/
def rReprL (K : PySem.W.Frag) : List V → Hp → VK → Prop := fun xs H Q => ∃ (p : Addr) (vs : List V) (ds : List PyData) (b : Bool), xs = [.ref p] ∧ H p = some (.lst vs) ∧ p ≠ sysModules ∧ DXAll K H vs ds ∧ (∀ d ∈ ds, d.hasDict = b) ∧ Shows (.list ds) ∧ Q (.str (PyData.list ds).shown) H
theorem call_reprL (hg : X.A.guards = some []) (hu : X.A.units + 64 < cLine) : CallR X (.builtin "repr") (rReprL X.K) := by
  intro pins s σ
        H xs us Q I r h
  obtain ⟨p, vs, ds, b, rfl, hp, np, hd, hb, S, q⟩ := h
  cases r with
  | @cons _ u _ _ rv rn =>
    cases rn
    cases (show u = Value.ref p from rv)
    obtain ⟨_, its, n, rvs, ho⟩ := (show ObjOk X.prog X.w H s.heap p (.lst vs) from I.hok p _ hp)
    obtain ⟨as, hr, hs⟩ := hd.reads I hb rvs
    refine repr_of_reads' (Reads.list ho rfl rfl hr) S.sh (fun z => ?_) hg (by have := S.dp; omega) (fun _ _ z => z) (fun h' t k kk => ⟨.str (PyData.list ds).shown, H, I.kept kk, ⟨_, rfl⟩, q⟩) S.sz
    unfold PyData.hasDict at z
    intro hm
    rcases List.mem_cons.mp
          hm with e | e
    · exact np e.symm
    · exact hs (dictAll_of hb z) e
/-- a list display, and its address -/
def tLstS (t : TA) : TE := fun σ H Q => t σ H fun xs H1 => xs.length ≤ sizeLine ∧ ∀ p, H1 p = none → p ≠ sysModules → Q (.ref p) (upd H1 p (.lst xs))
theorem pe_lstS {es : List Expr} {t : TA} {pos : Pos} (h : PA X es t) : PE X (.List es pos) (tLstS t) := by
  refine ⟨fun pins s
        σ H Q I hq => ?_⟩
  refine wpAny_List_spliced (thn (h.run pos pins s σ H _ I hq) fun us s1 hh => ?_)
  obtain ⟨xs, H1, I1, r, z, q⟩ := hh
  refine ⟨by rw [← r.length]; exact z, ?_⟩
  have free : H1 s1.heap.objs.size = none := I1.hok.fresh (Nat.le_refl _)
  have big := Inv.big I1
  refine ⟨.ref s1.heap.objs.size, upd H1 s1.heap.objs.size (.lst xs), I1.laid (t' := s1.toks) (fun b u e => Heap.get?_push_of_some _ e) (Nat.le_refl _) ?_, rfl, q _ free (Ne.symm (Nat.ne_of_lt big))⟩
  exact ⟨z, us, 0, r,
        Heap.get?_push_size _ rfl⟩
/-- xs.count(b), truth values -/
def eqb (k : Bool) (v : Value) : Bool := match v with
  | .bool n => n == k
  | _ => false
theorem eqb_gives {k : Bool} {A : Around} {s : Shared} : ∀ {us : List Value} {bs : List Bool}, Vals (bs.map V.bl) us → ∀ y ∈ us, SeqAt.EqAt A s y (.bool k) (eqb k y)
  | _, [], .nil => fun y hy => by cases hy
  | _, b :: bs, .cons r h => fun y hy => by
    rcases List.mem_cons.mp
          hy with e | e
    · rw [e, show _ = Value.bool b from r]
      exact SeqAt.EqAt.bool_bool b k
    · exact eqb_gives h y e
theorem eqb_count {k : Bool} : ∀ {us : List Value} {bs : List Bool}, Vals (bs.map V.bl) us → us.countP (eqb k) = bs.count k
  | _, [], .nil => rfl
  | _, b :: bs, .cons r h => by
    rw [List.countP_cons, List.count_cons, eqb_count (k := k) h, show _ = Value.bool b from r]
    rfl
def rCntB (K : PySem.W.Frag) : V → List V → Hp → VK → Prop := fun x xs H Q => ∃ (p : Addr) (bs : List Bool) (k : Bool), x = .ref p ∧ xs = [.bl k] ∧ SqL K H p (bs.map V.bl) ∧ Q (.int (bs.count k : Nat)) H
theorem mt_count_bool : MtR X "list.count" (rCntB X.K) := by
  intro pins s σ H x
        xs v us Q I rx rxs h
  obtain ⟨p, bs, k, rfl, rfl, hs, q⟩ := h
  cases rx
  obtain ⟨u, rfl,
        ru⟩ := rxs.one
  cases (show u = Value.bool k from ru)
  obtain ⟨its, rv, ⟨⟨cls, dd, data, sl⟩,
        n, ho, hc, hdn, hd⟩, hlen⟩ := I.list hs
  simp only at hc hd
  subst hc hd
  refine call_meets PySem.F.slot_list_count ⟨_, ho, rfl⟩ PySem.F.entry_list_count (PySem.F.args_list_count_2 _ _) (SeqAt.list_countAt p its.toArray n dd sl (.bool k) (eqb k))
    ⟨ho, fun y hy => eqb_gives rv y (by simpa using hy), ?_⟩
  have ec : its.toArray.toList.countP (eqb k) = bs.count k := eqb_count rv
  refine ⟨.int (bs.count k : Nat), H, I.tok _, ⟨s.toks, ?_⟩, q⟩
  show Value.int ((its.toArray.toList.countP (eqb k) : Nat) : Int) s.toks = Value.int ((bs.count k : Nat) : Int) s.toks
  rw [ec]
/-- a short text, many times -/
theorem op_mul_str : OpR X (binaryOp .Mult) (fun x y H Q => ∃ (z : Str) (i : Int), x = .str z ∧ y = .int i ∧ z.length ≤ 16 ∧ 0 ≤ i ∧ i ≤ 1000 ∧ Q (.str (Txt.mul z i)) H) := by
  intro pins s σ H x
        y v u Q I rx ry h
  obtain ⟨z, i, rfl, rfl, hz, h0, h1, q⟩ := h
  obtain ⟨t, rfl⟩ := rx
  obtain ⟨t', rfl⟩ := ry
  refine PySem.W.KXi.mul rfl hz (by omega) (by omega) fun tk k _ _ => ?_
  exact ⟨.str (Txt.mul z i), H, I.tok _, ⟨_, rfl⟩, q⟩
end
end XK
end
section
set_option Elab.async false
set_option linter.all false
set_option maxRecDepth 100000
set_option maxHeartbeats 4100000
namespace XK
open PySem PySem.Spec PyProof.Rows L2
/-! ### a law's own def: it is called where no repr is under way -/
section
variable {P : Program} {w : World} {K : PySem.W.Frag} {mg : Str → Option Value} {base : Heap} {CX : CXT} {k : Nat} {f : Addr} {fd : FuncData} {N ps : List Str} {sp : Sp}
/-- a def's promise where the claim's caller calls it -/
structure AtCaller (P : Program) (w : World) (K : PySem.W.Frag) (mg : Str → Option Value) (base : Heap) (CX : CXT) (k : Nat) (f : Addr) (fd : FuncData) (ps : List Str) (sp : Sp) : Prop where
  go : ∀ (outer : List Env) (s : Shared) (H : Hp) (args : Args) (us : List Value) (vs : List V) (Q : VK) (E : XK), Room k callerA → Env0 P w K mg base callerA outer s H → BindsTo s fd args (ps.zip us) → Vals vs us → sp vs H Q E →
    codeAny (model P w) callerA (.call (.ref f) args) (CR CX outer P w H s Q E) s
theorem atCaller {x qual : Str} {st : Stmt} (F : Fun K x qual st f fd) (S : FnScope N ps (defScope st)) (len : ∀ vs H Q E, sp vs H Q E → vs.length = ps.length)
    (body : ∀ (cdv : Value) (outer : List Env) (s : Shared) (H : Hp) (vs : List V) (Q : VK) (E : XK), Room k (callerA.deeper (envOfC qual (defScope st) s.heap.objs.size f cdv)) → sp vs H Q E →
      ∃ t, PSs (cxOf CX P w K mg base N qual (defScope st) f cdv callerA outer s H E).nox (defBody st) t ∧ t { nx := fun _ H' => Q .non H', rt := Q } (start N vs) H) :
    AtCaller P w K mg base CX (k + 1) f fd ps sp := by
  obtain ⟨oc, od, kV, doc, pm, an,
        cdv, ct, osl, rfl, lk, hcd⟩ := F.ex
  constructor
  intro outer s H args us vs Q E room env bind rel want
  have count := len _ _ _ _ want
  have inn : K.In s.heap := env.mod.kin.keeps fun b o e => (env.bs b o e).1
  have lim : s.heap.NoLimit := env.mod.nolimit.keeps fun b o e => (env.bs b o e).1
  have kinds : ∀ y ∈ ps.zip us, (defScope st).names.lookup y.1 = some .local ∨ ((defScope st).names.lookup y.1 = some .cell ∧ ((cellsFrom (s.heap.objs.size + 1) (defScope st).names []).lookup y.1).isSome = true) := by
    rintro ⟨n, v⟩ hy
    cases S.par n (List.of_mem_zip hy).1 with
    | inl q => exact .inl q
    | inr q => exact .inr ⟨q, PySem.W.cellsFrom_some _ _ _ (.inl q)⟩
  refine codeAny_call_function room.depth (inn _ _ lk) rfl S.co S.gen rfl (PySem.W.codeRec_of inn hcd) (bind _ _ _ _ ?_)
  refine wpAny_newFunctionEnv_cells S.kind kinds fun en hen s1 entered => ?_
  subst hen
  refine ⟨lim.keeps entered.toInCall.keep, codeAny_func ?_⟩
  obtain ⟨t, der, rd⟩ := body cdv outer s H vs Q E (room.deeper _) want
  have I0 : Inv (cxOf CX P w K mg base N qual (defScope st) f cdv callerA outer s H E) [] (start N vs) H s1 := inv_start S room.hd env count rel entered
  refine wpAny_mono (der.nox.run [] s1 (start N vs) H _ I0 rd) (fun flow s' res => ?_) fun _ _ res => res
  cases flow with
  | ret u =>
    obtain ⟨v, σ', H', J, rv, q⟩ := res
    exact ⟨v, H', J.os, J.bare, J.base, J.hok, rv, q⟩
  | next =>
    obtain ⟨σ', H', J, q⟩ := res
    exact ⟨V.non, H', J.os, J.bare, J.base, J.hok, rfl, q⟩
  | brk =>
    obtain ⟨_, _, _, no⟩ := res
    exact no.elim
  | cont =>
    obtain ⟨_, _, _, no⟩ := res
    exact no.elim
end
/-- the law's call: nothing but the script may be tracked at its entry -/
theorem caller_runs {P : Program} {w : World} {K : PySem.W.Frag} {mg mb : Str → Option Value} {k : Nat} {fa a : Addr} {fd : FuncData} {x : Str} {sp : Sp} {s₁ : Shared} {vs : List Value} {ns : List Int}
    (inn : K.In s₁.heap) (glob : s₁.heap.Ns mainGlobals mg) (bns : s₁.heap.Ns builtinsNs mb) (boot : ∀ x : Str, x ≠ "__name__" → mb x = bootBuiltins x) (lim : s₁.heap.NoLimit) (gens : s₁.gens = #[])
    (obj : s₁.heap.get? a = some { cls := .type "list", data := .seq vs.toArray }) (inz : IntsAre vs ns) (short : ns.length ≤ sizeLine) (room : Room k callerA)
    (F : ∀ base : Heap, K.In base → base.Ns mainGlobals mg → AtCaller P w K mg base CX0 k fa fd [x] sp) (bind : ∀ (s : Shared) (u : Value), BindsTo s fd ⟨[u], []⟩ [(x, u)])
    (want : ∀ H : Hp, SqL K H a (ns.map V.int) → sp [.ref a] H (fun v _ => v = .bl true) fun _ _ _ => False) :
    codeAny (model P w) callerA (.call (.ref fa) ⟨[.ref a], []⟩) (fun r s' => r = .ok
          (.ret (.bool true)) ∧ OldK s₁.heap s'.heap ∧ s'.os = s₁.os ∧ AllBare s'.gens) s₁ := by
  have vals := vals_ints inz
  have many := inz.length
  have main : ∀ H : Hp, (∀ b, H b = none ∨ ∃ ob xs, H b = some (.frz ob xs)) → SqL K H a (ns.map V.int) → HOk P w H s₁.heap → (∀ b, H b ≠ none → b = a ∧ K.lookup b = none) →
      codeAny (model P w) callerA (.call (.ref fa) ⟨[.ref a], []⟩) (fun r s' => r = .ok
            (.ret (.bool true)) ∧ OldK s₁.heap s'.heap ∧ s'.os = s₁.os ∧ AllBare s'.gens) s₁ := by
    intro H frozen seq ok alone
    have plain : ∀ {b : Addr} {o : Obj}, s₁.heap.get? b = some o → (b = a → False) → H b = none := fun {b o} _ nb => by
      cases q : H b with
      | none => rfl
      | some u => exact (nb (alone b (by rw [q]; simp)).1).elim
    have space : ∀ {b : Addr} {m : Str → Option Value}, s₁.heap.Ns b m → (hidT s₁.heap H).Ns b m := fun {b m} ⟨o, es, ep, e, d, r⟩ =>
      ⟨o, es, ep, hidT_get e (plain e fun z => by
        rw [z, obj] at e
        cases e
        cases (show Data.seq vs.toArray _ = Data.dict es ep from d)), d, r⟩
    have kept : K.In (hidT s₁.heap H) := fun b o e => hidT_get (inn b o e) (by
      cases q : H b with
      | none => rfl
      | some u =>
        have z := (alone b (by rw [q]; simp)).2
        rw [z] at e
        cases e)
    have md : Mod K mg (hidT s₁.heap H) := ⟨kept, space glob, ⟨mb, space bns, boot⟩, by
      obtain ⟨mc, h1, h2⟩ := lim
      exact ⟨mc, space h1, h2⟩⟩
    have env : Env0 P w K mg (hidT s₁.heap H) callerA [] s₁ H :=
      ⟨rfl, md, fun b o e => of_hidT e, Nat.le_of_eq (hidT_size _ _), trivial, fun b hb => (by cases hb), ok, AllBare.of_eq gens⟩
    have res := (F _ kept (space glob)).go [] s₁ H ⟨[.ref a], []⟩ [.ref a] [.ref a] _ _ room env (bind s₁ (.ref a)) (.cons rfl .nil) (want H seq)
    refine codeAny_mono res fun r s' h => ?_
    cases r with
    | error e => exact False.elim h
    | ok fl =>
      cases fl with
      | next => exact False.elim h
      | brk => exact False.elim h
      | cont => exact False.elim h
      | ret u =>
        obtain ⟨v, H', os, bare, un, ok', rel, q⟩ := h
        obtain rfl : v = .bl true := q
        obtain rfl : u = Value.bool true := rel
        refine ⟨rfl, OldK.of_keep
              fun b o e => ?_, os, bare⟩
        rcases frozen b with z | ⟨ob, xs, z⟩
        · exact un.keep b o e z (fun z => by cases z) (fun z => by cases z)
        · obtain ⟨e1, _⟩ := ok b _ z
          obtain ⟨e2, _⟩ := ok' b _ (un.frzs b ob _ z)
          rw [e] at e1
          cases e1
          exact e2
  cases hk : K.lookup a with
  | some o =>
    have e := inn a o hk
    rw [obj] at e
    cases e
    refine main (fun _ => none) (fun _ => .inl rfl) (.inr ⟨_, vs.toArray, _, hk, rfl, rfl, rfl, ?_, ?_⟩) (fun b u z => by cases (show (none : Option HO) = some u from z)) fun b z => absurd rfl z
    · rw [List.size_toArray, many]
      exact short
    · simpa using vals
  | none =>
    refine main (upd (fun _ => none) a (.frz { cls := .type "list", data := .seq vs.toArray } (.lst (ns.map V.int)))) (fun b => ?_) (.inl (.inr ⟨_, upd_same⟩)) (fun b u z => ?_) fun b z => ?_
    · by_cases hb : b = a
      · rw [hb]
        exact .inr ⟨_, _, upd_same⟩
      · exact .inl (upd_ne hb)
    · by_cases hb : b = a
      · subst hb
        rw [upd_same] at z
        cases z
        exact ⟨obj, by rw [List.length_map]; exact short, vs, _, vals, obj⟩
      · rw [upd_ne hb] at z
        cases z
    · by_cases hb : b = a
      · exact ⟨hb, by rw [hb]; exact hk⟩
      · exact absurd (upd_ne hb) z
/-- the goal that the head leaves -/
theorem caller_walk {l : PySem.W.OpenLaw} {n k : Nat} {q : Program} {loose : List Str} {XP : (Str → Option Value) → Heap → Prop} {YP : World → Heap → Prop} {d : DefRec} {K : Params → PySem.W.Frag} {sp : World → Sp} {x : Str}
    (most : l.most = some n) (small : n ≤ sizeLine) (plain : d.params.defaults = []) (room : Room k callerA)
    (Y : ∀ (w : World) (h : Heap), YP w h → (K w.params).In h)
    (F : ∀ (w : World) (mg : Str → Option Value) (fa : Addr) (h : Heap), (K w.params).In h → h.Ns mainGlobals mg → mg d.name = some (.ref fa) →
      ∃ fd : FuncData, (∀ (s : Shared) (u :
            Value), BindsTo s fd ⟨[u], []⟩ [(x, u)]) ∧
        ∀ base : Heap, (K w.params).In base → base.Ns mainGlobals mg → AtCaller l.prog w (K w.params) mg base CX0 k fa fd [x] (sp w))
    (want : ∀ (w : World) (H : Hp) (a : Addr) (ns : List Int), ns.length ≤ n → SqL (K w.params) H a (ns.map V.int) → sp w [.ref a] H (fun v _ => v = .bl true) fun _ _ _ => False) :
    PySem.W.WalkO q loose XP YP l.row.toRowW
          d [] (fun f vs => PySem.call f vs) := by
  refine Att.attach_call most plain fun w s₀ s₁ mg mb fa o pm cd doc a vs ns G y ho hd hcd hmg obj inz many gens => ?_
  obtain ⟨fd, bind, run⟩ := F w mg fa _ (Y w _ y) G.T.g hmg
  exact caller_runs (Y w _ y) G.T.g G.T.b G.T.builtins G.T.nolimit gens obj inz (Nat.le_trans many small) room run bind fun H seq => want w H a ns many seq
end XK
end
section
set_option Elab.async false
set_option linter.all false
set_option maxRecDepth 100000
set_option maxHeartbeats 4100000
namespace XV
open PySem PySem.Spec PyProof.Rows L2 StX
/-! ### def f(a, *v, k=d): called by position alone, and by k alone -/
/-- a def's promise where it is called with keywords ks -/
def FnV (P : Program) (w : World) (K : PySem.W.Frag) (mg : Str → Option Value) (base : Heap) (CX : CXT) (k : Nat) (f : Addr) (ks : List Str) (sp : List V → List V → Hp → VK → XK → Prop) : Prop :=
  ∀ (A : Around) (outer : List Env) (s : Shared) (H : Hp) (us ws : List Value) (vs zs : List V) (Q : VK) (E : XK), Room k A → Env0 P w K mg base A outer s H → Vals vs us → Vals zs ws → zs.length = ks.length → sp vs zs H Q E →
    codeAny (model P w) A (.call (.ref f) ⟨us, ks.zip ws⟩) (CR CX outer P w H s Q E) s
section
variable {CX : CXT} {P : Program} {w : World} {K : PySem.W.Frag} {mg : Str → Option Value} {base : Heap} {k : Nat} {f : Addr} {name qual : Str} {params : Arguments} {body : List Stmt} {scope : Scope} {dV kV doc pm cdv ct oc : Value} {an od : Option Addr}
  {osl : Array (Option Value)} {N : List Str} {p0 pk pv : Str} {sp : Sp}
/-- what binding does once the names are known: a new tuple of what is left over -/
theorem bnd_tail {A : Around} {outer : List Env} {s : Shared} {H : Hp} {E : XK} {A' : Around} {Ex : Value → Shared → Prop} {Q' : List (Str × Value) → Shared → Prop} {u0 d : Value} {v0 vd : V} {us : List Value} {rest : List V} (e0 : Env0 P w K mg base A outer s H) (hCX : CXUp CX) (r0 : RelV v0 u0) (rd : RelV vd d) (r : Vals rest us) (hz : rest.length ≤ sizeLine)
    (h : ∀ (s2 : Shared) (H2 : Hp) (vs : List V) (us : List Value), Env0 P w K mg base A outer s2 H2 → Un (frs outer) [] H H2 s.heap s2.heap → s2.os = s.os → (∀ e s', CX outer H2 s2 E e s' → CX outer H s E e s') → Vals vs us → vs.length = [p0, pk, pv].length → (∃ p, H p = Option.none ∧ vs = [v0, vd, V.ref p] ∧ H2 = upd H p (.tup rest)) → Q' ([p0, pk, pv].zip us) s2) :
    wpAny (model P w) A' (newTuple us >>= fun t => pure [(p0, u0), (pk, d), (pv, t)]) Q' Ex s := by
  have hn : H s.heap.objs.size = Option.none := e0.hok.fresh (Nat.le_refl _)
  have hl2 : us.length ≤ sizeLine := by rw [← r.length]; exact hz
  refine wpAny_bind (wpAny_newTuple (wpAny_pure ?_) hl2)
  have new : ObjOk P w (upd H s.heap.objs.size (.tup rest)) (s.heap.push ({ cls := .type "tuple", data := .seq us.toArray } : Obj)) s.heap.objs.size (.tup rest) := ⟨hz, us, r, ⟨_, Heap.get?_push_size _ rfl, rfl, _, rfl⟩⟩
  have un := un_laid (fs := frs outer) (s := s) (o := ({ cls := .type "tuple", data := .seq us.toArray } : Obj)) (u := .tup rest) hn
  exact h _ _ [v0, vd, V.ref s.heap.objs.size] [u0, d, Value.ref s.heap.objs.size] (env0_laid e0 new) un rfl (fun e s' => hCX outer s H _ _ E e s' un (fun b o q => Heap.get?_push_of_some _ q) rfl) (.cons r0 (.cons rd (.cons rfl .nil))) rfl ⟨_, hn, rfl, rfl⟩
/-- by position: k's default stands in the dict at D -/
theorem fn_vpos {D : Addr} {d : Value} {vd : V} {n : Nat} (lk : K.lookup f = some ⟨oc, od, .func (PySem.W.fnOf name qual params body scope dV kV doc pm an cdv ct), osl⟩) (hcd : PySem.W.codeIn K cdv qual = true) (S : FnScope N [p0, pk, pv] scope) (hCX : CXUp CX)
    (hD : PySem.W.nsIn K D pk = some (some d)) (rd : RelV vd d) (hz : n ≤ sizeLine)
    (hb : ∀ (u0 : Value) (us : List Value), us.length ≤ n → ∃ (β γ : Type) (k1 : Option Value → Sem β) (k2 : β → Sem γ) (k3 : γ → Sem (List (Str × Value))) (a : β), bindArgs (PySem.W.fnOf name qual params body scope dV kV doc pm an cdv ct) ⟨u0 :: us, []⟩ = ((nsGet D pk >>= k1) >>= k2) >>= k3 ∧ k1 (some d) = pure a ∧ (k2 a >>= k3) = (newTuple us >>= fun t => pure [(p0, u0), (pk, d), (pv, t)]))
    (hbody : ∀ (A : Around) (outer : List Env) (s : Shared) (H : Hp) (vs : List V) (Q : VK) (E : XK), Room k (A.deeper (envOfC qual scope s.heap.objs.size f cdv)) → sp vs H Q E →
      ∃ t, PSs (cxOf CX P w K mg base N qual scope f cdv A outer s H E) body t ∧ t { nx := fun _ H' => Q .non H', rt := Q } (start N vs) H) :
    FnV P w K mg base CX (k + 1) f [] (fun vs _ H Q E => ∃ v0 rest, vs = v0 :: rest ∧ rest.length ≤ n ∧ ∀ p, H p = Option.none → sp [v0, vd, V.ref p] (upd H p (.tup rest)) Q E) := by
  intro A outer s H us ws vs zs Q E hr e0 r rz lz hsp
  obtain ⟨v0, rest, rfl, hl, hq⟩ := hsp
  cases r with
  | @cons _ u0 _ us r0 r =>
    have KX : K.In s.heap := e0.mod.kin.keeps fun b o e => (e0.bs b o e).1
    obtain ⟨β, γ, k1, k2, k3, a, e1, e2, e3⟩ := hb u0 us (by rw [← r.length]; exact hl)
    refine run_bnd lk hcd S hr e0 (G := fun xs H2 => ∃ p, H p = Option.none ∧ xs = [v0, vd, V.ref p] ∧ H2 = upd H p (.tup rest)) (fun A' Ex Q' h => ?_) fun s2 H2 xs ⟨p, hp, ex, eH⟩ hr' => ?_
    · have e0' : (([] : List Str).zip ws) = [] := rfl
      rw [e0', e1, bind_assoc]
      have l1 : PySem.W.Looks (model P w) s.heap (nsGet D pk >>= k1) a := (PySem.W.looks_nsIn KX hD).andThen (PySem.W.Looks.of_pure e2)
      refine wpAny_bind (l1.here ?_)
      rw [e3]
      exact bnd_tail e0 hCX r0 rd r (Nat.le_trans hl hz) h
    · subst ex eH
      exact hbody A outer s2 _ _ Q E hr' (hq p hp)
/-- by k alone -/
theorem fn_vkey (lk : K.lookup f = some ⟨oc, od, .func (PySem.W.fnOf name qual params body scope dV kV doc pm an cdv ct), osl⟩) (hcd : PySem.W.codeIn K cdv qual = true) (S : FnScope N [p0, pk, pv] scope) (hCX : CXUp CX)
    (hb : ∀ (u0 d : Value), bindArgs (PySem.W.fnOf name qual params body scope dV kV doc pm an cdv ct) ⟨[u0], [(pk, d)]⟩ = (newTuple [] >>= fun t => pure [(p0, u0), (pk, d), (pv, t)]))
    (hbody : ∀ (A : Around) (outer : List Env) (s : Shared) (H : Hp) (vs : List V) (Q : VK) (E : XK), Room k (A.deeper (envOfC qual scope s.heap.objs.size f cdv)) → sp vs H Q E →
      ∃ t, PSs (cxOf CX P w K mg base N qual scope f cdv A outer s H E) body t ∧ t { nx := fun _ H' => Q .non H', rt := Q } (start N vs) H) :
    FnV P w K mg base CX (k + 1) f [pk] (fun vs zs H Q E => ∃ v0 y, vs = [v0] ∧ zs = [y] ∧ ∀ p, H p = Option.none → sp [v0, y, V.ref p] (upd H p (.tup [])) Q E) := by
  intro A outer s H us ws vs zs Q E hr e0 r rz lz hsp
  obtain ⟨v0, y, rfl, rfl, hq⟩ := hsp
  obtain ⟨u0, rfl, r0⟩ := vals1 r
  obtain ⟨d, rfl, rd⟩ := vals1 rz
  refine run_bnd lk hcd S hr e0 (G := fun xs H2 => ∃ p, H p = Option.none ∧ xs = [v0, y, V.ref p] ∧ H2 = upd H p (.tup [])) (fun A' Ex Q' h => ?_) fun s2 H2 xs ⟨p, hp, ex, eH⟩ hr' => ?_
  · have e1 : ([pk].zip [d]) = [(pk, d)] := rfl
    rw [e1, hb]
    exact bnd_tail e0 hCX r0 rd .nil (Nat.zero_le _) h
  · subst ex eH
    exact hbody A outer s2 _ _ Q E hr' (hq p hp)
end
section
variable {X : Cx} {CX : CXT} {k : Nat} {f C : Addr} {ks : List Str} {sp : List V → List V → Hp → VK → XK → Prop} {E : XK} {x : Str} {p pos : Pos} {e : Expr} {es : List Expr} {kws : List Keyword} {t tk : TA}
theorem run_makeV {pins : List (Addr × Obj)} {σ : L2.St} {H : Hp} {s : Shared} {Q : VK} {us ws : List Value} {vs zs : List V} (M : Mk X.K C f) (F : FnV X.prog X.w X.K X.mg X.base CX k f ks sp) (hr : Room (k + 1) X.A) (hx : Passes CX X E)
    (I : Inv X pins σ H s) (r : Vals vs us) (rz : Vals zs ws) (l2 : zs.length = ks.length)
    (h : ∀ x dx, H x = none → H dx = none → dx ≠ x → sp (.ref x :: vs) zs (upd (upd H dx (.own x)) x (.ins C dx [])) (fun v H2 => v = .non ∧ Q (.ref x) H2) E) :
    wpAny (model X.prog X.w) X.A (call (.ref C) us (ks.zip ws)) (EP X pins σ Q) X.xe s := by
  have hq := h (s.heap.objs.size + 1) s.heap.objs.size (I.hok.fresh (Nat.le_succ _)) (I.hok.fresh (Nat.le_refl _)) (Nat.ne_of_lt (Nat.lt_succ_self _))
  have I2 := Inv.made (C := C) I
  have r1 : Vals (V.ref (s.heap.objs.size + 1) :: vs) (Value.ref (s.heap.objs.size + 1) :: us) := .cons rfl r
  refine wpAny_call (make_map (f := f) I.kIn M.makes M.init (beq_iff_eq.mp M.fn) (codeAny_mono (F _ X.stack _ _ (Value.ref (s.heap.objs.size + 1) :: us) ws _ _ _ E (hr.make C us (ks.zip ws)) (I2.env0.make C us (ks.zip ws)) r1 rz l2 hq) fun r s' hq' => ?_))
  cases r with
  | error e => exact hx pins σ _ _ e s' I2 hq'
  | ok fl =>
    cases fl with
    | ret u =>
      obtain ⟨v, H', I3, rv, ev, q3⟩ := I2.after hq'
      subst ev
      exact ⟨rv, ⟨V.ref (s.heap.objs.size + 1), H', I3, rfl, q3⟩⟩
    | next => exact False.elim hq'
    | brk => exact False.elim hq'
    | cont => exact False.elim hq'
/-- what C(..) asks -/
def tMakeV (C : Addr) (m : Nat) (sp : List V → List V → Hp → VK → XK → Prop) (E : XK) (t tk : TA) : TE := fun σ H Q => t σ H fun vs H1 => tk σ H1 fun zs H2 => zs.length = m ∧ ∀ x dx, H2 x = none → H2 dx = none → dx ≠ x → sp (.ref x :: vs) zs (upd (upd H2 dx (.own x)) x (.ins C dx [])) (fun v H3 => v = .non ∧ Q (.ref x) H3) E
/-- C(e, ..) -/
theorem pe_makeV (M : Mk X.K C f) (F : FnV X.prog X.w X.K X.mg X.base CX k f [] sp) (hr : Room (k + 1) X.A) (hg : Gl X x) (hm : X.mg x = some (.ref C)) (hx : Passes CX X E) (ha : PA X (e :: es) t) (hdb : (x == ("__debug__" : Str)) = false := by decide)
    (he : starEach (e :: es) X.env = (false, eval e X.env) :: starEach es X.env := by rfl) (hpl : (backTo pos (starEach es X.env)).any (·.1) = false := by rfl) : PE X (.Call (.Name x p) (e :: es) [] pos) (tMakeV C 0 sp E t tNil) := by
  refine ⟨fun pins s σ H Q I h => ?_⟩
  refine wpAny_Call_Name_kw (ld_glob I hg hm ?_ hdb)
  refine PySem.W.callWith_K (h₀ := X.base) I.ok.mod.kin M.kp (thn (ha.run pos pins s σ H _ I h) fun us s1 ⟨vs, H1, I1, r, q⟩ => ⟨I1.kIn, ?_⟩) he hpl
  exact run_makeV (ws := []) (zs := []) M F hr hx I1 r .nil rfl q.2
/-- C(k = v, ..) -/
theorem pe_makeVK (M : Mk X.K C f) (F : FnV X.prog X.w X.K X.mg X.base CX k f ks sp) (hr : Room (k + 1) X.A) (hg : Gl X x) (hm : X.mg x = some (.ref C)) (hx : Passes CX X E) (hkw : PK X kws tk)
    (hall : (backToKw pos (keywordEach kws X.env)).all (·.1.isSome) = true := by rfl) (hks : (backToKw pos (keywordEach kws X.env)).filterMap (·.1) = ks := by rfl) (hdb : (x == ("__debug__" : Str)) = false := by decide)
    (hpl : ((backTo pos (starEach [] X.env)).any (·.1) || (backToKw pos (keywordEach kws X.env)).any (·.1.isNone)) = false := by rfl) : PE X (.Call (.Name x p) [] kws pos) (tMakeV C ks.length sp E tNil tk) := by
  refine ⟨fun pins s σ H Q I h => ?_⟩
  refine wpAny_Call_Name_kw (ld_glob I hg hm ?_ hdb)
  refine PySem.W.callWith_KW0 (h₀ := X.base) I.ok.mod.kin M.kp hall ?_ hpl
  refine thn (hkw.run pos pins s σ H _ I h) fun ws s2 ⟨zs, H2, I2, rz, l2, q2⟩ => ⟨I2.kIn, ?_⟩
  rw [hks]
  exact run_makeV (us := []) (vs := []) M F hr hx I2 .nil rz l2 q2
end
end XV
end
section
set_option Elab.async false
set_option linter.all false
set_option maxRecDepth 100000
set_option maxHeartbeats 4100000
namespace PySem
open Sem (wp)
open AutoSeq1 (wpAny_loadPart')
/-! ### enumerate(tuple) -/
theorem meets_enumerate_newT (l : Addr) (items : Array Value) (n : Nat) (dct : Option Addr) (sl : Array (Option Value)) :
    Meets (Builtin.«enumerate.__new__» ⟨[.type "enumerate", .ref l], []⟩) (fun _ R s => s.heap.get? l = some { cls := .type "tuple", dict := dct, data := .seq items n, slots := sl } ∧
      R (.ok (.ret (.ref (s.heap.push { cls := .type "tuple_iterator", data := .fields #[.ref l, .int 0 0] }).objs.size)))
        { s with heap := (s.heap.push { cls := .type "tuple_iterator", data := .fields #[.ref l, .int 0 0] }).push { cls := .type "enumerate", data := .fields #[.none, .bool false, .ref s.heap.objs.size, rawInt 0, .none, .none] } }) :=
  .of_wp fun prog w A R s h => by
    obtain ⟨hp, g, d, tk, os⟩ := s; obtain ⟨hl, h⟩ := h
    have hsub := sub_enumerate
    have hL : Heap.IsTuple (Shared.heap ⟨hp, g, d, tk, os⟩) l items := ⟨_, hl, rfl, n, rfl⟩
    wp_walk using wpAny_loadPart' hl
    refine wpAny_stack_any fun st => wpAny_pure ?_
    split
    · rename_i c _ _ _ _ _
      cases (c == Value.type "enumerate")
      · wp_walk using wpAny_loadPart' hl, wpAny_pyIter_tuple hL
        exact ⟨_, rfl, h⟩
      · wp_walk using wpAny_loadPart' hl, wpAny_pyIter_tuple hL
        exact ⟨_, rfl, h⟩
    · wp_walk using wpAny_loadPart' hl, wpAny_pyIter_tuple hL
      exact ⟨_, rfl, h⟩
theorem call_enumerate_tuple {prog : Program} {w : World} {A : Around} {E : Value → Shared → Prop} {s : Shared} {l : Addr} {items : Array Value} {Q : Value → Shared → Prop} (hL : s.heap.IsTuple l items)
    (h : ∀ h', IsEnum h' (s.heap.objs.size + 1) s.heap.objs.size 0 .none → h'.IsTupleIter s.heap.objs.size l 0 → h'.objs.size = s.heap.objs.size + 2 →
      (∀ b o, s.heap.get? b = some o → h'.get? b = some o) → Q (.ref (s.heap.objs.size + 1)) { s with heap := h' }) :
    wpAny (model prog w) A (call (.type "enumerate") [.ref l]) Q E s := by
  obtain ⟨⟨c, dct, dt, sl⟩, hl, hc, n, hd⟩ := hL
  replace hc : c = .type "tuple" := hc
  replace hd : dt = .seq items n := hd
  subst hc hd
  refine callType_new F.called_enumerate (by decide) (F.typeCall_enumerate_1 _) (F.newCall_enumerate_1 _) (fun obj => F.args_object_init_2 obj _) F.entry_enumerate_new
    (meets_enumerate_newT l items n dct sl) ⟨hl, ?_⟩
  have hz : (s.heap.push { cls := .type "tuple_iterator", data := .fields #[.ref l, .int 0 0] }).objs.size = s.heap.objs.size + 1 := Heap.size_push ..
  show _ ∧ _
  rw [hz]
  have he : IsEnum ((s.heap.push { cls := .type "tuple_iterator", data := .fields #[.ref l, .int 0 0] }).push
      { cls := .type "enumerate", data := .fields #[.none, .bool false, .ref s.heap.objs.size, rawInt 0, .none, .none] }) (s.heap.objs.size + 1) s.heap.objs.size 0 .none := by
    have := Heap.get?_push_size (s.heap.push { cls := .type "tuple_iterator", data := .fields #[.ref l, .int 0 0] })
      (o := { cls := .type "enumerate", data := .fields #[.none, .bool false, .ref s.heap.objs.size, rawInt 0, .none, .none] }) rfl
    rw [hz] at this; exact this
  refine ⟨⟨_, he, rfl⟩, h _ he ⟨_, Heap.get?_push_of_some _ (Heap.get?_push_size _ rfl), rfl, rfl⟩ (by rw [Heap.size_push, hz]) fun b o x => Heap.get?_push_of_some _ (Heap.get?_push_of_some _ x)⟩
end PySem
namespace XE
open PySem PySem.Spec PyProof.Rows L2
/-- the tuple at a as it stands at each turn, each item in a new pair -/
def IteT (K : PySem.W.Frag) (a : Addr) : It :=
  ⟨fun i H => ∃ (xs : List V) (x : V), SqT K H a xs ∧ xs[i]? = some x, fun i H v H' => ∃ T x, v = .ref T ∧ H T = none ∧ H' = upd H T (.tup [.int (i : Nat), x]) ∧ ∀ xs, SqT K H a xs → xs[i]? = some x, fun i H => ∃ xs : List V, SqT K H a xs ∧ xs.length = i⟩
theorem turn_enumT {P : Program} {w : World} {K : PySem.W.Frag} {elts : List Expr} {kk : Nat} {tpos : Pos} (a e it : Addr) (ae : a ≠ e) (ai : a ≠ it) :
    Turn P w K (.Tuple elts kk tpos) (IteT K a) [e, it] e (fun i h => (∃ old, IsEnum h e it ((i : Nat) : Int) old) ∧ h.IsTupleIter it a i ∧ e ≠ it) where
  mem := by simp
  obj := fun i h st b hb => by
    obtain ⟨⟨old, he⟩, ⟨o, ho, hc, hd⟩, _⟩ := st
    have e' : b = e ∨ b = it := by simpa using hb
    rcases e' with z | z
    · rw [z]; exact ⟨_, he, fun v q => nomatch q⟩
    · rw [z]; exact ⟨o, ho, fun v q => by rw [hd] at q; cases q⟩
  keep := fun i h h' st k => let ⟨⟨old, he⟩, hi, hne⟩ := st; ⟨⟨old, k e (by simp) _ he⟩, hi.at fun o q => k it (by simp) o q, hne⟩
  item := by
    intro X hP hw hK hc i pins s σ H E I hf st hg
    subst hP hw hK
    obtain ⟨⟨old, he⟩, hit, hne⟩ := st
    obtain ⟨xs, x, hq, hx⟩ := hg
    obtain ⟨its, rv, p, hz⟩ := I.tuple hq
    obtain ⟨u, hu, ru⟩ := rv.get hx
    have hel : e < s.heap.objs.size := Heap.lt_size he
    have hil : it < s.heap.objs.size := by obtain ⟨_, q, _⟩ := hit; exact Heap.lt_size q
    have hil' : i < its.toArray.size := by
      have := (List.getElem?_eq_some_iff.mp hu).1
      simpa using this
    refine wpAny_pyNext_enum_itemD (Draws.tuple (A := X.A.in1) (show X.A.in1.handled = none from I.ok.hd hc) it a ai its.toArray) he ⟨hit, show s.heap.IsTuple a its.toArray from p⟩ hil' hne (by simp [hne, Ne.symm ae]) fun x' h' tk hx' ho hit' hT hsz hk => ?_
    have ex : x' = u := by
      have z : its[i]? = some x' := by simpa using hx'
      rw [hu] at z
      exact (Option.some.inj z).symm
    subst ex
    refine ⟨_, rfl, wpAny_letOwnedTupleGo_enum (s := { s with heap := h', toks := tk + 1 }) ho fun h'' he' sb => ?_⟩
    have hT2 : h''.get? s.heap.objs.size = some { cls := .type "tuple", data := .seq #[.int i tk, x'] } := (sb.2 _ (Nat.ne_of_gt hel)).trans hT
    have new : ObjOk X.prog X.w (upd H s.heap.objs.size (.tup [.int (i : Nat), x])) h'' s.heap.objs.size (.tup [.int (i : Nat), x]) :=
      ⟨by show 2 ≤ sizeLine; decide, [.int i tk, x'], .cons ⟨_, rfl⟩ (.cons ru .nil), ⟨_, hT2, rfl, _, rfl⟩⟩
    have I1 : Inv X pins σ (upd H s.heap.objs.size (.tup [.int (i : Nat), x])) { s with heap := h'', toks := tk + 1 } :=
      I.turnedNew (ch := [e, it]) (fun b ob hb q => (sb.2 b (fun z => hb (by simp [z]))).trans (hk b ob (fun z => hb (by simp [z])) (fun z => hb (by simp [z])) q)) hf (Nat.le_refl _) new
    refine ⟨.ref s.heap.objs.size, _, I1, rfl, ⟨_, x, rfl, I.hok.fresh (Nat.le_refl _), rfl, fun ys hy => by rw [I.tuple_inj hy hq]; exact hx⟩, ⟨⟨x', ?_⟩, hit'.1.at fun o q => (sb.2 it (Ne.symm hne)).trans q, hne⟩, fun b hb => ?_⟩
    · have e1 : ((i + 1 : Nat) : Int) = (i : Int) + 1 := by omega
      rw [e1]; exact he'
    · have hb' : b < s.heap.objs.size := by
        have e' : b = e ∨ b = it := by simpa using hb
        rcases e' with z | z
        · rw [z]; exact hel
        · rw [z]; exact hil
      rw [upd_ne (Nat.ne_of_lt hb')]
      exact (hf b hb).1
  done := by
    intro X hP hw hK hc i pins s σ H E I hf st hg
    subst hP hw hK
    obtain ⟨⟨old, he⟩, hit, hne⟩ := st
    obtain ⟨xs, hq, hx⟩ := hg
    obtain ⟨its, rv, p, hz⟩ := I.tuple hq
    obtain ⟨f0, f1, f2, f3, f4, f5⟩ := hf it (by simp)
    have hl := rv.length
    have ei : i = its.toArray.size := by simp; omega
    subst ei
    exact wpAny_pyNext_enum_endD (Draws.tuple (A := X.A.in1) (show X.A.in1.handled = none from I.ok.hd hc) it a ai its.toArray) he ⟨hit, show s.heap.IsTuple a its.toArray from p⟩ fun h' eb => ⟨rfl, I.turned (t' := s.toks) (fun b o hb q => eb b o hb q) f0 f1 f3 f4 f5⟩
  self := fun A i s Q E st h => let ⟨⟨_, he⟩, _⟩ := st; wpAny_pyIter_enum he h
def iEnumT (K : PySem.W.Frag) (ta : TA) : TI := fun σ H R => ta σ H fun vs H1 => ∃ a xs, vs = [.ref a] ∧ SqT K H1 a xs ∧ R (IteT K a) H1
theorem pi_enumT {X : Cx} {e : Expr} {ta : TA} {p pos tpos : Pos} {elts : List Expr} {kk : Nat} (hg : Gl X "enumerate") (hm : X.mg "enumerate" = none) (ha : PA X [e] ta) (hs : starEach [e] X.env = [(false, eval e X.env)] := by rfl) :
    PI X (.Tuple elts kk tpos) (.Call (.Name "enumerate" p) [e] [] pos) (iEnumT X.K ta) := by
  refine ⟨fun pins s σ H R I h => ?_⟩
  refine Call_ (ld_blt I hg hm boot_enumerate (PyProof.Rows.callWith_type1 (thn (ha.run pos pins s σ H _ I h) fun us s1 ⟨vs, H1, I1, r1, q1⟩ => ?_) hs rfl))
  obtain ⟨a, xs, ex, hq, q⟩ := q1
  subst ex
  cases r1 with
  | cons r rr =>
    cases rr
    cases r
    obtain ⟨its, rv, p', hz⟩ := I1.tuple hq
    have la : a < s1.heap.objs.size := by
      obtain ⟨o, ho, _⟩ := (show s1.heap.IsTuple a its.toArray from p')
      exact Heap.lt_size ho
    refine call_enumerate_tuple (show s1.heap.IsTuple a its.toArray from p') fun h' he hit hsz hk => wpAny_pyIter_enum he ?_
    have I2 : Inv X pins σ H1 { s1 with heap := h' } := I1.kept (t' := s1.toks) hk
    refine ⟨s1.heap.objs.size + 1, [s1.heap.objs.size + 1, s1.heap.objs.size], _, _, H1, rfl, I2, turn_enumT a (s1.heap.objs.size + 1) s1.heap.objs.size (Nat.ne_of_lt (Nat.lt_succ_of_lt la)) (Nat.ne_of_lt la), ⟨⟨.none, he⟩, hit, Nat.succ_ne_self _⟩, fun b hb => ?_, q⟩
    have e' : b = s1.heap.objs.size + 1 ∨ b = s1.heap.objs.size := by simpa using hb
    have hle : s1.heap.objs.size ≤ b := by
      rcases e' with z | z
      · rw [z]; exact Nat.le_add_right _ _
      · rw [z]; exact Nat.le_refl _
    exact I1.fpOk hle (I1.hok.fresh hle)
theorem walk_enumT {K : PySem.W.Frag} {a : Addr} {xs : List V} : Walk (IteT K a) xs.length (fun H => SqT K H a xs) (YPair (fun i => some (.int (i : Nat))) (fun i => xs[i]?)) := by
  refine ⟨fun i _ hi q => ⟨xs, xs[i], q, by simp [hi]⟩, fun _ q => ⟨xs, q, rfl⟩, fun i H v H' _ q y => ?_⟩
  obtain ⟨T, x, h1, h2, h3, h4⟩ := y
  exact ⟨T, .int (i : Nat), x, h1, h2, h3, rfl, h4 xs q⟩
end XE
end
section
set_option Elab.async false
set_option linter.all false
set_option maxRecDepth 100000
set_option maxHeartbeats 4100000
namespace XO
open PySem PySem.Spec PyProof.Rows L2
/-! ### == and != by an own __eq__ that gives either truth -/
section
variable {X : Cx} {CX : CXT} {n : Nat} {C f : Addr} {fd : FuncData} {ps : List Str} {sp : Sp} {E : XK}
/-- the own __eq__ is called, from within -/
theorem eq_runs {A : Around} {pins : List (Addr × Obj)} {s : Shared} {σ : L2.St} {H : Hp} {a : Addr} {y : V} {v : Value} {q : Bool → Hp → Prop} {R : Value → Shared → Prop} (F : FnOk X.prog X.w X.K X.mg X.base CX n f fd ps sp) (hb : Binds X.K fd ps []) (hx : Passes CX X E)
    (room : Room n A) (fr : A.frames = X.A.frames) (I : Inv X pins σ H s) (ry : RelV y v) (want : sp [.ref a, y] H (fun z H' => ∃ b, z = .bl b ∧ q b H') E) (fin : ∀ b s' H', Inv X pins σ H' s' → q b H' → R (.bool b) s') :
    wpAny (model X.prog X.w) A (call (.ref f) [.ref a, v]) R X.xe s := by
  have e0 : Env0 X.prog X.w X.K X.mg X.base A X.stack s H := by
    have e := I.env0
    exact ⟨by rw [fr]; exact e.frames, e.mod, e.bs, e.bsz, e.funs, e.frf, e.hok, e.bare⟩
  have hl := F.len _ _ _ _ want
  have r2 : Vals [V.ref a, y] [Value.ref a, v] := .cons rfl (.cons ry .nil)
  refine wpAny_call (codeAny_mono (F.run A X.stack s H ⟨[.ref a, v], []⟩ [.ref a, v] [.ref a, y] _ E room e0 (by
    have := hb s [.ref a, v] I.kIn (by simpa using hl)
    simpa using this) r2 want) fun r s' res => ?_)
  cases r with
  | error e => exact hx pins σ H s e s' I res
  | ok fl =>
    cases fl with
    | ret w =>
      obtain ⟨z, H', I', rz, b, rfl, ez⟩ := I.after res
      obtain rfl : w = Value.bool b := rz
      exact fin b s' H' I' ez
    | next => exact False.elim res
    | brk => exact False.elim res
    | cont => exact False.elim res
/-- the reading of x == y and of x != y, x an instance of the class at C -/
def rOwnE (K : PySem.W.Frag) (C : Addr) (sp : Sp) (E : XK) (neg : Bool) : R2 := fun x y H Q => ∃ a dx fs t, x = .ref a ∧ H a = some (.ins C dx fs) ∧ TyX K H y t ∧ PySem.W.notFirst K C t = true ∧ sp [.ref a, y] H (fun z H' => ∃ b, z = .bl b ∧ Q (.bl (b != neg)) H') E
theorem op_own (F : FnOk X.prog X.w X.K X.mg X.base CX n f fd ps sp) (hs : PySem.W.findIn X.K (.ref C) "__eq__" = some (some (.ref f))) (hf : PySem.W.isFn X.K (.ref f) = true) (hb : Binds X.K fd ps []) (hx : Passes CX X E) (room : Room n X.A) :
    OpR X (compareOp .Eq) (rOwnE X.K C sp E false) := by
  intro pins s σ H x y v u Q I rx ry want
  obtain ⟨a, dx, fs, t, rfl, ha, ty, nf, rd⟩ := want
  cases rx
  obtain ⟨mA, J, _⟩ := ins_get I.hok ha
  obtain ⟨od, J, _⟩ := J.look
  obtain ⟨m, hF⟩ := I.fr
  obtain ⟨Pz, Z, pz, _⟩ := kit_of I ry ty
  show wpAny (model X.prog X.w) X.A (richCompare .Eq (.ref a) u) (EP X pins σ Q) X.xe s
  refine PySem.W.cmp_K (op := .Eq) (tb := t) room.units0 hF I.ok.mod.kin J (Z.ty _ _ I.kIn pz) nf hs hf ?_
  refine eq_runs F hb hx room rfl I ry rd fun b s' H' I' q => ?_
  refine ⟨.bl b, H', I', rfl, ?_⟩
  have e : (b != false) = b := by cases b <;> rfl
  rw [← e]
  exact q
theorem op_ownNe (F : FnOk X.prog X.w X.K X.mg X.base CX n f fd ps sp) (hs : PySem.W.findIn X.K (.ref C) "__eq__" = some (some (.ref f))) (hf : PySem.W.isFn X.K (.ref f) = true) (hb : Binds X.K fd ps []) (hx : Passes CX X E) (room : Room (n + 1) X.A)
    (ne : PySem.W.findIn X.K (.ref C) "__ne__" = some (some (.builtin "object.__ne__"))) (ob : PySem.W.mroIn X.K C (.type "object") = some true) : OpR X (compareOp .NotEq) (rOwnE X.K C sp E true) := by
  intro pins s σ H x y v u Q I rx ry want
  obtain ⟨a, dx, fs, t, rfl, ha, ty, nf, rd⟩ := want
  cases rx
  obtain ⟨mA, J, _⟩ := ins_get I.hok ha
  obtain ⟨od, J, _⟩ := J.look
  obtain ⟨Pz, Z, pz, _⟩ := kit_of I ry ty
  have kI := I.kIn
  have L0 : PySem.W.Looks (model X.prog X.w) s.heap (typeOf (.ref a)) (.ref C) := J.type
  have Lb := Z.ty (model X.prog X.w) _ kI pz
  have sub : PySem.W.Looks (model X.prog X.w) s.heap (isInstance (.ref a) (.type "object")) true := L0.andThen (PySem.W.looks_mroIn kI ob)
  have slot : wpAny (model X.prog X.w) X.A (call (.builtin "object.__ne__") [.ref a, u]) (fun z s' => ∃ b, z = Value.bool b ∧ ∃ H', Inv X pins σ H' s' ∧ Q (.bl b) H') X.xe s := by
    refine wpAny_call (codeAny_call_builtin PySem.F.cmp_object.ne.plain PySem.F.cmpEntry_ne (PySem.W.check_slot PySem.F.cmpKind_ne PySem.F.cmpSplit_ne sub (PySem.F.cmpArgs_ne _ _) ?_))
    have own : wpAny (model X.prog X.w) X.A.in1 (callSpecialIfBound? (.ref a) (Str.ofString "__eq__") [u]) (fun z s' => ∃ b, z = some (Value.bool b) ∧ ∃ H', Inv X pins σ H' s' ∧ Q (.bl (b != true)) H') X.xe s := by
      refine PySem.W.ifBound_K kI J hs hf (eq_runs F hb hx room.in1 rfl I ry rd fun b s' H' I' q => ⟨b, rfl, H', I', q⟩)
    unfold Builtin.«object.__ne__»
    refine wpAny_bind (wpAny_of_eq (a := ((Value.ref a : Value), [u])) (by first | rfl | (simp only [slotArgs]; rfl)) ?_)
    refine wpAny_bind (wpAny_cRoomFor room.in1.units0 ?_)
    refine wpAny_bind (wpAny_mono own (fun z s' hz => ?_) fun _ _ e => e)
    obtain ⟨b, rfl, H', I', q⟩ := hz
    refine wpAny_bind (wpAny_truthy_bool ?_)
    refine wpAny_pure ?_
    refine ⟨!b, rfl, H', I', ?_⟩
    have e : (b != true) = !b := by cases b <;> rfl
    rw [← e]
    exact q
  have one : wpAny (model X.prog X.w) X.A (tryCompare (.ref a) "__ne__" u) (fun z s' => ∃ b, z = some (Value.bool b) ∧ ∃ H', Inv X pins σ H' s' ∧ Q (.bl b) H') X.xe s := by
    unfold tryCompare
    have got : wpAny (model X.prog X.w) X.A (callSpecialIfBound? (.ref a) "__ne__" [u]) (fun z s' => ∃ b, z = some (Value.bool b) ∧ ∃ H', Inv X pins σ H' s' ∧ Q (.bl b) H') X.xe s := by
      simp only [callSpecialIfBound?, bindSpecialIfBound?]
      refine wpAny_holding (wpAny_bind (wpAny_bind (wpAny_bind (L0.here ((PySem.W.looks_findIn kI ne).here ?_)))))
      refine wpAny_bind (wpAny_askSetting (wpAny_ite ?_))
      have fin : wpAny (model X.prog X.w) X.A (call (.builtin "object.__ne__") ([.ref a] ++ [u]) >>= fun v => pure (some v)) (fun z s' => ∃ b, z = some (Value.bool b) ∧ ∃ H', Inv X pins σ H' s' ∧ Q (.bl b) H') X.xe s :=
        wpAny_bind (wpAny_mono slot (fun z s' hz => by
          obtain ⟨b, rfl, k⟩ := hz
          exact wpAny_pure ⟨b, rfl, k⟩) fun _ _ e => e)
      split
      · rw [PySem.F.cmp_object.ne.bind]
        exact wpAny_bind (wpAny_pure (wpAny_pure (by exact fin)))
      · rw [PySem.F.cmp_object.ne.bind]
        exact wpAny_tryCatch (wpAny_bind (wpAny_pure (wpAny_pure (by exact fin))))
    refine wpAny_bind (wpAny_mono got (fun z s' hz => ?_) fun _ _ e => e)
    obtain ⟨b, rfl, k⟩ := hz
    exact wpAny_pure ⟨b, rfl, k⟩
  show wpAny (model X.prog X.w) X.A (richCompare .NotEq (.ref a) u) (EP X pins σ Q) X.xe s
  unfold richCompare
  simp only [oneThing_ref]
  refine wpAny_holding (wpAny_bind (wpAny_cRoomFor room.units0 ?_))
  refine wpAny_bind (L0.here (wpAny_bind (Lb.here ?_)))
  have last : wpAny (model X.prog X.w) X.A (tryCompare (.ref a) "__ne__" u) (fun r s' => ∃ v, r = some v ∧ EP X pins σ Q v s') X.xe s := wpAny_mono one (fun z s' hz => by
    obtain ⟨b, rfl, H', I', q⟩ := hz
    exact ⟨_, rfl, .bl b, H', I', rfl, q⟩) fun _ _ e => e
  split
  · rename_i q
    have e : PySem.W.subIn X.K t (.ref C) = some false := by
      rcases Bool.or_eq_true_iff.mp nf with e | e
      · rw [beq_iff_eq.mp e] at q
        simp at q
      · exact beq_iff_eq.mp e
    refine wpAny_bind ((PySem.W.looks_subIn kI e).here ?_)
    simp only [Bool.false_eq_true, if_false]
    refine wpAny_bind (wpAny_mono last (fun r s' z => ?_) fun _ _ e => e)
    obtain ⟨v, rfl, hq⟩ := z
    exact wpAny_pure hq
  · refine wpAny_bind (wpAny_pure ?_)
    simp only [Bool.false_eq_true, if_false]
    refine wpAny_bind (wpAny_mono last (fun r s' z => ?_) fun _ _ e => e)
    obtain ⟨v, rfl, hq⟩ := z
    exact wpAny_pure hq
end
end XO
end
section
set_option Elab.async false
set_option linter.all false
set_option maxRecDepth 100000
set_option maxHeartbeats 4100000
namespace XO
open PySem PySem.Spec PyProof.Rows L2
/-! ### x + y by an own __add__, both of the class at C -/
section
variable {X : Cx} {CX : CXT} {n : Nat} {C f : Addr} {fd : FuncData} {ps : List Str} {sp : Sp} {E : XK}
def rOwnA (C : Addr) (sp : Sp) (E : XK) : R2 := fun x y H Q => ∃ a dx fs b dy gs, x = .ref a ∧ y = .ref b ∧ H a = some (.ins C dx fs) ∧ H b = some (.ins C dy gs) ∧ sp [.ref a, .ref b] H Q E
theorem op_ownA (F : FnOk X.prog X.w X.K X.mg X.base CX n f fd ps sp) (hs : PySem.W.findIn X.K (.ref C) "__add__" = some (some (.ref f))) (hf : PySem.W.isFn X.K (.ref f) = true) (hb : Binds X.K fd ps []) (hx : Passes CX X E) (room : Room n X.A)
    (hc : PySem.W.selfFirst X.K C = true) : OpR X (binaryOp .Add) (rOwnA C sp E) := by
  intro pins s σ H x y v u Q I rx ry want
  obtain ⟨a, dx, fs, b, dy, gs, rfl, rfl, ha, hb', q⟩ := want
  cases (show v = Value.ref a from rx)
  cases (show u = Value.ref b from ry)
  obtain ⟨mA, J, _⟩ := ins_get I.hok ha
  obtain ⟨od, J, _⟩ := J.look
  obtain ⟨mB, J', _⟩ := ins_get I.hok hb'
  obtain ⟨od', J', _⟩ := J'.look
  obtain ⟨m, hF⟩ := I.fr
  refine PySem.W.binop_K (op := .Add) hF I.ok.mod.kin J J'.type hc hs hf ?_
  have r2 : Vals [V.ref a, V.ref b] [Value.ref a, Value.ref b] := .cons rfl (.cons rfl .nil)
  have hl := F.len _ _ _ _ q
  refine wpAny_call (codeAny_mono (F.run X.A X.stack s H ⟨[.ref a, .ref b], []⟩ [.ref a, .ref b] [.ref a, .ref b] _ E room I.env0 (by
    have := hb s [.ref a, .ref b] I.kIn (by simpa using hl)
    simpa using this) r2 q) fun r s' res => ?_)
  cases r with
  | error e => exact hx pins σ H s e s' I res
  | ok fl =>
    cases fl with
    | ret w =>
      obtain ⟨z, H', I', rz, q3⟩ := I.after res
      exact SlX.cmpback rz ⟨z, H', I', rz, q3⟩
    | next => exact False.elim res
    | brk => exact False.elim res
    | cont => exact False.elim res
end
end XO
namespace XV
open PySem PySem.Spec PyProof.Rows L2 StX
section
variable {X : Cx} {CX : CXT} {k : Nat} {f C : Addr} {ks : List Str} {sp : List V → List V → Hp → VK → XK → Prop} {E : XK} {x : Str} {p pos : Pos} {kws : List Keyword} {t tk : TA} {tf : TE}
/-- c(k = v, ..), c a name of any kind that is the class at C -/
theorem pe_makeVKn (M : Mk X.K C f) (F : FnV X.prog X.w X.K X.mg X.base CX k f ks sp) (hr : Room (k + 1) X.A) (hf : PE X (.Name x p) tf) (hx : Passes CX X E) (hkw : PK X kws tk)
    (hall : (backToKw pos (keywordEach kws X.env)).all (·.1.isSome) = true := by rfl) (hks : (backToKw pos (keywordEach kws X.env)).filterMap (·.1) = ks := by rfl)
    (hpl : ((backTo pos (starEach [] X.env)).any (·.1) || (backToKw pos (keywordEach kws X.env)).any (·.1.isNone)) = false := by rfl) : PE X (.Call (.Name x p) [] kws pos) (fun σ H Q => tf σ H fun c H1 => c = .ref C ∧ tMakeV C ks.length sp E tNil tk σ H1 Q) := by
  refine ⟨fun pins s σ H Q I h => ?_⟩
  refine wpAny_Call_Name_kw (thn (hf.run pins s σ H _ I h) fun u s1 ⟨c, H1, I1, rc, ec, q1⟩ => ?_)
  subst ec
  obtain rfl : u = Value.ref C := rc
  refine PySem.W.callWith_KW0 (h₀ := X.base) I1.ok.mod.kin M.kp hall ?_ hpl
  refine thn (hkw.run pos pins s1 σ H1 _ I1 q1) fun ws s2 ⟨zs, H2, I2, rz, l2, q2⟩ => ⟨I2.kIn, ?_⟩
  rw [hks]
  exact run_makeV (us := []) (vs := []) M F hr hx I2 .nil rz l2 q2
end
end XV
end
section
set_option Elab.async false
set_option linter.all false
set_option maxRecDepth 100000
set_option maxHeartbeats 4100000
namespace XS
open PySem PySem.Spec PyProof.Rows L2
section
variable {X : Cx} {pins : List (Addr × Obj)} {σ : L2.St} {H : Hp} {s : Shared} {f : Addr} {fd : FuncData} {x qual : Str} {st : Stmt} {z : Str} {k : Nat}
/-- a def without parameters that hands back a written text: a token is out behind it -/
theorem run_lit {j : Nat} {p1 p2 : Pos} (F : Fun X.K x qual st f fd) (S : FnScope [] [] (defScope st)) (hb : defBody st = [.Return (some (.Constant (.str z) j p1)) p2]) (bind : ∀ s, BindsTo s fd ⟨[], []⟩ []) (nc : (defScope st).names = []) (hr : Room k X.A)
    (I : Inv X pins σ H s) : wpAny (model X.prog X.w) X.A (call (.ref f) []) (fun v s1 => 1 ≤ s1.toks ∧ ∃ t, v = .str z t ∧ Inv X pins σ H s1) X.xe s := by
  obtain ⟨oc, od, kV, doc, pm, an, cdv, ct, osl, rfl, lk, co⟩ := F.ex
  refine wpAny_call (Att.call_fn (binds := []) I.kIn I.nolimit lk co hr.depth (bind s) rfl (fun s₁ IC => ?_) S.co S.gen S.kind)
  obtain ⟨h₁, tk₁, rfl⟩ := IC.toInCall.same
  rw [hb]
  show wpAny _ _ (execs _ _) _ _ _
  refine wpAny_execs_cons (wpAny_Return_some (Calls.Constant_str ?_))
  refine ⟨Nat.succ_le_succ (Nat.zero_le _), tk₁, rfl, ?_⟩
  exact I.kept (t' := tk₁ + 1) fun b o e => IC.toInCall.keep b o e
/-- signs().replace(y, w) -/
theorem pe_litRepl {j j0 j1 : Nat} {y w : Str} {p p1 p2 q apos pos c0 c1 : Pos} (F : Fun X.K x qual st f fd) (S : FnScope [] [] (defScope st)) (hb : defBody st = [.Return (some (.Constant (.str z) j p1)) p2]) (bind : ∀ s, BindsTo s fd ⟨[], []⟩ []) (nc : (defScope st).names = []) (hr : Room k X.A)
    (gF : X.mg x = some (.ref f)) (hyz : (y == w) = false) (hl : z.length + (z.length + 1) * w.length ≤ 16777216) (hg : Gl X x := by rfl) (hdb : (x == ("__debug__" : Str)) = false := by decide)
    (hst : starEach [.Constant (.str y) j0 c0, .Constant (.str w) j1 c1] X.env = [(false, eval (.Constant (.str y) j0 c0) X.env), (false, eval (.Constant (.str w) j1 c1) X.env)] := by rfl)
    (hbase : attributeBase (.Call (.Name x p) [] [] q) "replace" X.env (eval (.Call (.Name x p) [] [] q) X.env) = eval (.Call (.Name x p) [] [] q) X.env := by rfl) (hline : (apos.endLine == pos.line) = true := by rfl) :
    PE X (.Call (.Attribute (.Call (.Name x p) [] [] q) "replace" apos) [.Constant (.str y) j0 c0, .Constant (.str w) j1 c1] [] pos) (tC (.str (Txt.replace z y w))) := by
  refine ⟨fun pins s σ H Q I h => ?_⟩
  refine PySem.Call_method2 hbase hst hline ?_
  refine wpAny_Call_Name_kw (ld_glob I hg gF ?_ hdb)
  refine PySem.W.callWith_K0 I.kIn F.kp ?_
  refine wpAny_mono (run_lit F S hb bind nc hr I) (fun v s1 hv => ?_) fun _ _ e => e
  obtain ⟨one, tx, rfl, I1⟩ := hv
  refine ⟨"str", _, PySem.F.plainAttrs_str, PySem.F.slot_str_replace, PySem.F.type_str_replace, typeIs_str _ _ _, (fun _ e => nomatch e), Calls.callWith_builtin rfl (Calls.evalArgs_plain (Calls.spliced_cons ?_))⟩
  refine Calls.Constant_str (Calls.spliced_cons (Calls.Constant_str (Calls.spliced_nil ?_)))
  refine PySem.SC.replace (by show s1.toks ≠ 0; omega) (by show s1.toks + 1 ≠ 0; omega) (by show s1.toks ≠ s1.toks + 1; omega) hyz hl fun t' k => ?_
  exact ⟨.str (Txt.replace z y w), H, I1.tok k, ⟨t', rfl⟩, h⟩
end
/-! ### texts by their codes -/
/-- a text's codes -/
abbrev cod (z : Str) : List Nat := z.cps.toList
theorem len_cod (z : Str) : (cod z).length = z.length := by
  show z.cps.toList.length = z.cps.size
  simp
theorem cod_ext {a b : Str} (h : cod a = cod b) : a = b := by
  obtain ⟨⟨x⟩⟩ := a
  obtain ⟨⟨y⟩⟩ := b
  have h' : x = y := h
  rw [h']
/-- the text of one sign -/
def sg (c : Nat) : Str := ⟨#[c]⟩
theorem joinL_sg : ∀ cs : List Nat, TL.joinL [] (cs.map fun c => [c]) = cs := by
  intro cs
  induction cs with
  | nil => rfl
  | cons c r ih =>
    cases r with
    | nil => rfl
    | cons d r' =>
      show [c] ++ [] ++ TL.joinL [] ((d :: r').map fun c => [c]) = c :: d :: r'
      rw [ih]
      rfl
theorem join_sg (cs : List Nat) : cod (Txt.join ⟨#[]⟩ (cs.map sg)) = cs := by
  have h := SX.join_S [] (cs.map fun c => [c])
  rw [joinL_sg] at h
  have e : (cs.map fun c => [c]).map SX.S = cs.map sg := by
    rw [List.map_map]
    rfl
  rw [e] at h
  show (Txt.join (SX.S []) (cs.map sg)).cps.toList = cs
  rw [h]
theorem sg_inj {c d : Nat} (h : sg c = sg d) : c = d := by
  have e : #[c] = #[d] := congrArg Str.cps h
  simpa using e
end XS
end
section
set_option Elab.async false
set_option linter.all false
set_option maxRecDepth 100000
set_option maxHeartbeats 4100000
namespace LM
/-! ### texts of blocks: the mathematics -/
section
variable {α : Type}
/-- a block: rows, and how many times they stand -/
abbrev Bk (α : Type) := List α × Nat
def one (b : Bk α) : List α := (List.replicate b.2 b.1).flatten
/-- what blocks write -/
def wr (bs : List (Bk α)) : List α := (bs.map one).flatten
theorem wr_nil : wr ([] : List (Bk α)) = [] := rfl
theorem wr_cons (b : Bk α) (bs : List (Bk α)) : wr (b :: bs) = one b ++ wr bs := rfl
theorem wr_app (a b : List (Bk α)) : wr (a ++ b) = wr a ++ wr b := by
  unfold wr
  rw [List.map_append, List.flatten_append]
theorem len_one (b : Bk α) : (one b).length = b.1.length * b.2 := by
  unfold one
  obtain ⟨r, k⟩ := b
  induction k with
  | zero => simp
  | succ k ih =>
    rw [List.replicate_succ, List.flatten_cons, List.length_append]
    show r.length + _ = r.length * (k + 1)
    have ih : (List.replicate k r).flatten.length = r.length * k := ih
    rw [ih, Nat.mul_succ, Nat.add_comm]
theorem get_one (b : Bk α) (n : Nat) (h : n < b.1.length * b.2) : (one b)[n]? = b.1[n % b.1.length]? := by
  obtain ⟨r, k⟩ := b
  have h : n < r.length * k := h
  induction k generalizing n with
  | zero => exact absurd h (by simp)
  | succ k ih =>
    show ((List.replicate (k + 1) r).flatten)[n]? = r[n % r.length]?
    rw [List.replicate_succ, List.flatten_cons]
    by_cases c : n < r.length
    · rw [List.getElem?_append_left c, Nat.mod_eq_of_lt c]
    · have c : r.length ≤ n := Nat.le_of_not_lt c
      rw [List.getElem?_append_right c]
      have lt : n - r.length < r.length * k := by
        rw [Nat.mul_succ] at h
        omega
      have z := ih (n - r.length) lt lt
      have z : ((List.replicate k r).flatten)[n - r.length]? = r[(n - r.length) % r.length]? := z
      rw [z, Nat.mod_eq_sub_mod c]
/-- within a block that stands behind pre -/
theorem get_mid (pre : List (Bk α)) (b : Bk α) (post : List (Bk α)) (n : Nat) (h : n < b.1.length * b.2) : (wr (pre ++ b :: post))[(wr pre).length + n]? = b.1[n % b.1.length]? := by
  rw [wr_app, wr_cons, List.getElem?_append_right (Nat.le_add_right _ _), Nat.add_sub_cancel_left, List.getElem?_append_left (by rw [len_one]; exact h), get_one b n h]
/-- two rows over and over, alike for as long as both are together: alike for ever -/
theorem alike_on {f g : Nat → Option α} {p q : Nat} (hp : 0 < p) (hq : 0 < q) (pf : ∀ n, f (n + p) = f n) (pg : ∀ n, g (n + q) = g n) (h : ∀ n, n < p + q → f n = g n) : ∀ n, f n = g n := by
  intro n
  induction n using Nat.strongRecOn with
  | ind n ih =>
    by_cases c : n < p + q
    · exact h n c
    · have e1 : f n = f (n - p) := by
        have z := pf (n - p)
        rw [Nat.sub_add_cancel (by omega)] at z
        exact z
      have e2 : g (n - p) = g (n - p - q) := by
        have z := pg (n - p - q)
        rw [Nat.sub_add_cancel (by omega)] at z
        exact z
      have e3 : g n = g (n - q) := by
        have z := pg (n - q)
        rw [Nat.sub_add_cancel (by omega)] at z
        exact z
      have e4 : f (n - q) = f (n - p - q) := by
        have z := pf (n - p - q)
        rw [show n - p - q + p = n - q by omega] at z
        exact z
      rw [e1, e3, ih (n - p) (by omega), e2, ← ih (n - q) (by omega), e4, ih (n - p - q) (by omega)]
/-- the same, told of rows read at offsets -/
theorem rows_alike {r t : List α} {x y many : Nat} (hr : 0 < r.length) (ht : 0 < t.length) (hm : r.length + t.length ≤ many) (h : ∀ n, n < many → r[(x + n) % r.length]? = t[(y + n) % t.length]?) (n : Nat) : r[(x + n) % r.length]? = t[(y + n) % t.length]? := by
  refine alike_on (f := fun n => r[(x + n) % r.length]?) (g := fun n => t[(y + n) % t.length]?) hr ht (fun n => ?_) (fun n => ?_) (fun n hn => h n (by omega)) n
  · show r[(x + (n + r.length)) % r.length]? = _
    rw [← Nat.add_assoc, Nat.add_mod_right]
  · show t[(y + (n + t.length)) % t.length]? = _
    rw [← Nat.add_assoc, Nat.add_mod_right]
/-- r tells where two texts first differ -/
def IsU (u v : List α) : Option Nat → Prop
  | none => u = v
  | some n => u[n]? ≠ v[n]? ∧ ∀ m, m < n → u[m]? = v[m]?
theorem IsU.eq {u v : List α} : ∀ {r s : Option Nat}, IsU u v r → IsU u v s → r = s
  | none, none, _, _ => rfl
  | none, some n, h, g => absurd (by rw [show u = v from h]) g.1
  | some n, none, h, g => absurd (by rw [show u = v from g]) h.1
  | some n, some m, h, g => by
    rcases Nat.lt_trichotomy n m with c | c | c
    · exact absurd (g.2 n c) h.1
    · rw [c]
    · exact absurd (h.2 m c) g.1
theorem IsU.symm {u v : List α} : ∀ {r : Option Nat}, IsU u v r → IsU v u r
  | none, h => (show u = v from h).symm
  | some n, h => ⟨fun e => h.1 e.symm, fun m hm => (h.2 m hm).symm⟩
/-- the end of a search: alike up to the shorter one's end -/
theorem isU_end {u v : List α} (h : ∀ m, m < min u.length v.length → u[m]? = v[m]?) : IsU u v (if u.length = v.length then none else some (min u.length v.length)) := by
  by_cases c : u.length = v.length
  · rw [if_pos c]
    refine List.ext_getElem? fun m => ?_
    by_cases d : m < u.length
    · exact h m (by omega)
    · rw [List.getElem?_eq_none (by omega), List.getElem?_eq_none (by omega)]
  · rw [if_neg c]
    refine ⟨fun e => ?_, fun m hm => h m hm⟩
    rcases Nat.lt_or_gt_of_ne c with d | d
    · rw [show min u.length v.length = u.length by omega, List.getElem?_eq_none (Nat.le_refl _), List.getElem?_eq_getElem d] at e
      cases e
    · rw [show min u.length v.length = v.length by omega, List.getElem?_eq_none (i := v.length) (l := v) (Nat.le_refl _), List.getElem?_eq_getElem d] at e
      cases e
/-! ### blocks cut -/
theorem one_add (r : List α) (a b : Nat) : one (r, a) ++ one (r, b) = one (r, a + b) := by
  show (List.replicate a r).flatten ++ (List.replicate b r).flatten = (List.replicate (a + b) r).flatten
  rw [← List.flatten_append, List.replicate_append_replicate]
theorem one_one (r : List α) : one (r, 1) = r := by
  show (List.replicate 1 r).flatten = r
  simp
theorem one_two (r : List α) (h : Nat) : one (r ++ r, h) = one (r, 2 * h) := by
  induction h with
  | zero => rfl
  | succ h ih =>
    have e : one (r, 2 * (h + 1)) = one (r, 2) ++ one (r, 2 * h) := by
      rw [one_add, show 2 + 2 * h = 2 * (h + 1) by omega]
    rw [e, ← ih]
    show (List.replicate (h + 1) (r ++ r)).flatten = (List.replicate 2 r).flatten ++ (List.replicate h (r ++ r)).flatten
    rw [List.replicate_succ, List.flatten_cons]
    simp [List.replicate_succ]
theorem one_succ (r : List α) (k : Nat) : one (r, k + 1) = r ++ one (r, k) := by
  show (List.replicate (k + 1) r).flatten = _
  rw [List.replicate_succ, List.flatten_cons]
  rfl
theorem one_turn (a b : List α) (k : Nat) : a ++ one (b ++ a, k) ++ b = one (a ++ b, k + 1) := by
  induction k with
  | zero =>
    show a ++ [] ++ b = _
    rw [List.append_nil, one_one]
  | succ k ih =>
    rw [one_succ (b ++ a) k, one_succ (a ++ b) (k + 1), ← ih]
    simp only [List.append_assoc]
end
end LM
end
section
set_option Elab.async false
set_option linter.all false
set_option maxRecDepth 100000
set_option maxHeartbeats 4100000
namespace LA
open PySem L2
/-! ### the text by places -/
def top (i : Nat) : Stmt := PySem.Challenge.pw_linestream_k47_whole_long_texts_cut.main.body.getD i (.Pass ⟨0, 0, 0, 0⟩)
abbrev sPen : Stmt := top 28
abbrev sDraw : Stmt := top 29
abbrev sPick : Stmt := top 30
/-! ### the pen: a dict of cells, turn, left -/
abbrev kC : Key := Sum.inr "cells"
abbrev kT : Key := Sum.inr "turn"
abbrev kL : Key := Sum.inr "left"
theorem nCT : ¬ (kC = kT) := by decide +kernel
theorem nCL : ¬ (kC = kL) := by decide +kernel
theorem nTC : ¬ (kT = kC) := by decide +kernel
theorem nTL : ¬ (kT = kL) := by decide +kernel
theorem nLC : ¬ (kL = kC) := by decide +kernel
theorem nLT : ¬ (kL = kT) := by decide +kernel
theorem put_same_len {kvs : List (Key × V)} {k : Key} {v u : V} (h : valV kvs k = some u) : (putK kvs k v).length = kvs.length := by
  unfold putK
  rw [valV_any, h]
  simp
/-- the pen stands at d, at most n turns were drawn, its cells at c are the ints ns -/
structure Pen (H : Hp) (d c : Addr) (n : Int) (ns : List Int) (kvs : List (Key × V)) (t l : Int) : Prop where
  dc : H d = some (.dK kvs)
  vc : valV kvs kC = some (.ref c)
  vt : valV kvs kT = some (.int t)
  vl : valV kvs kL = some (.int l)
  t0 : 0 ≤ t
  tn : t ≤ n
  sz : kvs.length ≤ 3
  cs : H c = some (.lst (ns.map V.int))
  cl : ns.length ≤ 63
theorem Pen.getC {H d c n ns kvs t l} (p : Pen H d c n ns kvs t l) : DGet H d (.str "cells") (some (.ref c)) := by
  have h := DGet.k (k := kC) p.dc
  rw [p.vc] at h
  exact h
theorem Pen.getT {H d c n ns kvs t l} (p : Pen H d c n ns kvs t l) : DGet H d (.str "turn") (some (.int t)) := by
  have h := DGet.k (k := kT) p.dc
  rw [p.vt] at h
  exact h
theorem Pen.getL {H d c n ns kvs t l} (p : Pen H d c n ns kvs t l) : DGet H d (.str "left") (some (.int l)) := by
  have h := DGet.k (k := kL) p.dc
  rw [p.vl] at h
  exact h
theorem Pen.small {H d c n ns kvs t l} (p : Pen H d c n ns kvs t l) : kvs.length < sizeLine := small1000 (by have := p.sz; omega)
def PenAt (H : Hp) (d c : Addr) (n : Int) (ns : List Int) : Prop := ∃ kvs t l, Pen H d c n ns kvs t l
theorem Pen.ne {H d c n ns kvs t l} (p : Pen H d c n ns kvs t l) : c ≠ d := ne_of p.cs p.dc (by intro z; cases z)
theorem PenAt.ne {H d c n ns} (p : PenAt H d c n ns) : c ≠ d := by
  obtain ⟨_, _, _, p⟩ := p
  exact p.ne
theorem Pen.keep {H H' d c n ns kvs t l} (p : Pen H d c n ns kvs t l) (h : Same H H') : Pen H' d c n ns kvs t l :=
  ⟨h _ _ p.dc, p.vc, p.vt, p.vl, p.t0, p.tn, p.sz, h _ _ p.cs, p.cl⟩
theorem PenAt.keep {H H' d c n ns} (p : PenAt H d c n ns) (h : Same H H') : PenAt H' d c n ns := by
  obtain ⟨_, _, _, p⟩ := p
  exact ⟨_, _, _, p.keep h⟩
theorem Pen.putT {H d c n ns kvs t l} (p : Pen H d c n ns kvs t l) : Pen (upd H d (.dK (putK kvs kT (.int (t + 1))))) d c (n + 1) ns (putK kvs kT (.int (t + 1))) (t + 1) l :=
  ⟨upd_same, by rw [valV_put, if_neg nCT]; exact p.vc, by rw [valV_put, if_pos rfl], by rw [valV_put, if_neg nLT]; exact p.vl, by have := p.t0; omega, by have := p.tn; omega, by rw [put_same_len p.vt]; exact p.sz, by rw [upd_ne p.ne]; exact p.cs, p.cl⟩
theorem Pen.putL {H d c n ns kvs t l} (p : Pen H d c n ns kvs t l) (l' : Int) : Pen (upd H d (.dK (putK kvs kL (.int l')))) d c n ns (putK kvs kL (.int l')) t l' :=
  ⟨upd_same, by rw [valV_put, if_neg nCL]; exact p.vc, by rw [valV_put, if_neg nTL]; exact p.vt, by rw [valV_put, if_pos rfl], p.t0, p.tn, by rw [put_same_len p.vl]; exact p.sz, by rw [upd_ne p.ne]; exact p.cs, p.cl⟩
theorem Pen.more {H d c n m ns kvs t l} (p : Pen H d c n ns kvs t l) (h : n ≤ m) : PenAt H d c m ns :=
  ⟨_, _, _, p.dc, p.vc, p.vt, p.vl, p.t0, Int.le_trans p.tn h, p.sz, p.cs, p.cl⟩
/-- all that was tracked is as it was, but at d -/
def But (d : Addr) (H H' : Hp) : Prop := ∀ b o, H b = some o → b ≠ d → H' b = some o
theorem But.refl {d : Addr} {H : Hp} : But d H H := fun _ _ h _ => h
theorem But.trans {d : Addr} {H H1 H2 : Hp} (a : But d H H1) (b : But d H1 H2) : But d H H2 := fun c o h n => b c o (a c o h n) n
theorem But.same {d : Addr} {H H' : Hp} (a : Same H H') : But d H H' := fun c o h _ => a c o h
theorem same_upd {H : Hp} {p : Addr} {o : HO} (hp : H p = none) : Same H (upd H p o) := fun b u e => by
  rw [upd_ne (ne_of_none e hp)]
  exact e
theorem but_upd {H : Hp} {d : Addr} {o : HO} : But d H (upd H d o) := fun b u e n => by
  rw [upd_ne n]
  exact e
theorem dp_ints {K : PySem.W.Frag} {H : Hp} : ∀ ns : List Int, DpAll K H (ns.map V.int) (ns.map PyData.int)
  | [] => .nil
  | n :: r => .cons (.int n) (dp_ints r)
theorem canLay_ints : ∀ ns : List Int, PyData.canLayAll0 (ns.map PyData.int) = true
  | [] => rfl
  | n :: r => by
    show (PyData.canLay0 (.int n) && PyData.canLayAll0 (r.map PyData.int)) = true
    rw [canLay_ints r]
    rfl
theorem depth_ints : ∀ ns : List Int, PyData.depthAll (ns.map PyData.int) = 0
  | [] => rfl
  | n :: r => by
    show max (PyData.depth (.int n)) (PyData.depthAll (r.map PyData.int)) = 0
    rw [depth_ints r]
    rfl
theorem shaped_ints (ns : List Int) : SeqAt.shaped (.list (ns.map PyData.int)) = true := by
  unfold SeqAt.shaped
  have h1 : PyData.canLay0 (.list (ns.map PyData.int)) = true := by
    unfold PyData.canLay0
    exact canLay_ints ns
  have h2 : PyData.depth (.list (ns.map PyData.int)) ≤ 64 := by
    unfold PyData.depth
    rw [depth_ints]
    decide
  rw [h1, decide_eq_true h2]
  rfl
/-! ### the promises -/
def spPen (K : PySem.W.Frag) : Sp := fun vs H Q _ => ∃ (a : Addr) (ns : List Int), vs = [.ref a] ∧ SqL K H a (ns.map V.int) ∧ ns.length ≤ 63 ∧
  ∀ (d c : Addr) (ms : List Int) (H' : Hp), PenAt H' d c 0 ms → Same H H' → H d = none → H c = none → Q (.ref d) H'
/-- draw: any number below the span -/
def spDraw : Sp := fun vs H Q _ => ∃ (d c : Addr) (n : Int) (ns : List Int) (span : Int), vs = [.ref d, .int span] ∧ PenAt H d c n ns ∧ n < 1000000 ∧ 1 ≤ span ∧ span < 1000000 ∧
  ∀ (r : Int) (H' : Hp), 0 ≤ r → r < span → PenAt H' d c (n + 1) ns → But d H H' → Q (.int r) H'
structure Txt (mg : Str → Option Value) : Prop where
  len : mg "len" = none
  int : mg "int" = none
  list : mg "list" = none
  abs : mg "abs" = none
def primesI : List Int := [2147483629, 2147483647, 2147483587, 2147483563, 2147483579]
theorem prime_at {k : Int} : ∃ p : Int, atI (primesI.map V.int) (k.fmod 5) = some (.int p) ∧ 2 ≤ p ∧ p < 2147483648 := by
  have h0 := Int.fmod_nonneg_of_pos k (b := 5) (by decide)
  have h1 := Int.fmod_lt_of_pos k (b := 5) (by decide)
  generalize k.fmod 5 = r at h0 h1
  have : r = 0 ∨ r = 1 ∨ r = 2 ∨ r = 3 ∨ r = 4 := by omega
  rcases this with rfl | rfl | rfl | rfl | rfl
  · exact ⟨2147483629, atI_nat (j := 0) rfl, by decide, by decide⟩
  · exact ⟨2147483647, atI_nat (j := 1) rfl, by decide, by decide⟩
  · exact ⟨2147483587, atI_nat (j := 2) rfl, by decide, by decide⟩
  · exact ⟨2147483563, atI_nat (j := 3) rfl, by decide, by decide⟩
  · exact ⟨2147483579, atI_nat (j := 4) rfl, by decide, by decide⟩
theorem fmod_in {a b : Int} (h : 0 < b) : 0 ≤ a.fmod b ∧ a.fmod b < b := ⟨Int.fmod_nonneg_of_pos a h, Int.fmod_lt_of_pos a h⟩
theorem at_fmod {α : Type} {xs : List α} {k : Int} (h : 0 < (xs.length : Int)) : ∃ (j : Nat) (v : α), k.fmod (xs.length : Int) = (j : Int) ∧ xs[j]? = some v := by
  obtain ⟨h0, h1⟩ := fmod_in (a := k) h
  refine ⟨(k.fmod xs.length).toNat, xs[(k.fmod xs.length).toNat]'(by omega), by omega, List.getElem?_eq_getElem _⟩
section
variable {P : Program} {w : World} {K : PySem.W.Frag} {mg : Str → Option Value} {base : Heap}
theorem scD : FnScope ["_law_pen_here", "_law_span", "_law_digit", "_law_turn", "_law_cell", "_law_primes", "_law_prime", "_law_drawn"] ["_law_pen_here", "_law_span"] (defScope sDraw) := ⟨rfl, rfl, rfl, by decide +kernel, rfl, by decide +kernel, by decide +kernel⟩
theorem ok_draw {f : Addr} {fd : FuncData} (F : Fun K "_law_draw" "_law_draw" sDraw f fd) (T : Txt mg) : FnOk P w K mg base CX0 1 f fd ["_law_pen_here", "_law_span"] spDraw := by
  refine F.ok scD (fun vs H Q E h => ?_) (fun cdv A outer s H vs Q E hr h => ?_)
  · obtain ⟨d, c, n, ns, span, rfl, _⟩ := h
    rfl
  · obtain ⟨d, c, n, ns, span, rfl, ⟨kvs, t, l, p⟩, hn, s1, s2, k⟩ := h
    have hu := hu_of hr
    have hu6 := hr.units
    have t0 := p.t0
    have tn := p.tn
    refine ⟨_, pss_cons (by exact (ps_if (pt_cmpR op_gt (pe_dget hu (pv 0) pe_str (fun _ _ => rfl)) pe_int (nomark _))
          (pss_cons (ps_set (i := 2) scD.nd rfl (.inl rfl) (pe_op op_modN (pe_callTy call_int1 (by rfl) T.int (by decide +kernel) (pa_cons (pe_dget hu (pv 0) pe_str (fun _ _ => rfl)) pa_nil)) (pv 1)))
          (pss_cons (ps_dput hu (pv 0) pe_str (pe_op op_fdivN (pe_dget hu (pv 0) pe_str (fun _ _ => rfl)) (pv 1)) rfl)
          (pss_one (ps_ret (pv 2))))) pss_nil)) (
      pss_cons (by exact (ps_set (i := 3) scD.nd rfl (.inl rfl) (pe_dget hu (pv 0) pe_str (fun _ _ => rfl)))) (
      pss_cons (by exact (ps_dput hu (pv 0) pe_str (pe_op op_add (pv 3) pe_int) rfl)) (
      pss_cons (by exact (ps_set (i := 4) scD.nd rfl (.inl rfl) (pe_op op_add (pe_op op_mul pe_int (pv 3)) pe_int))) (
      pss_cons (by exact (ps_if (pt_cmpR (op_neD hu6) (pe_dget hu (pv 0) pe_str (fun _ _ => rfl)) (pe_lst pa_nil) (nomark _))
          (pss_one (ps_set (i := 4) scD.nd rfl (.inl rfl) (pe_ix ix_list (pe_dget hu (pv 0) pe_str (fun _ _ => rfl))
            (pe_op op_modN (pe_callTy call_int1 (by rfl) T.int (by decide +kernel) (pa_cons (pv 3) pa_nil)) (pe_callB call_len_seq (by rfl) T.len PySem.boot_len (pa_cons (pe_dget hu (pv 0) pe_str (fun _ _ => rfl)) pa_nil))) (fun _ _ => rfl)))) pss_nil)) (
      pss_cons (by exact (ps_if (PW.pt (pw_and (pt_cmpR op_lt (pv 3) (pe_callB call_len_seq (by rfl) T.len PySem.boot_len (pa_cons (pe_dget hu (pv 0) pe_str (fun _ _ => rfl)) pa_nil)) (nomark _))
            (pw_and1 (pt_cmpR op_ge (pe_callB call_abs (by rfl) T.abs (by decide +kernel) (pa_cons (pv 4) pa_nil)) (pe_op op_pow pe_int pe_int) (nomark _)))))
          (pss_cons (ps_dput hu (pv 0) pe_str (pe_op op_fdivN (pe_op op_sub (pe_callB call_abs (by rfl) T.abs (by decide +kernel) (pa_cons (pv 4) pa_nil)) (pe_op op_pow pe_int pe_int)) (pv 1)) rfl)
          (pss_one (ps_ret (pe_op op_modN (pe_op op_sub (pe_callB call_abs (by rfl) T.abs (by decide +kernel) (pa_cons (pv 4) pa_nil)) (pe_op op_pow pe_int pe_int)) (pv 1))))) pss_nil)) (
      pss_cons (by exact (ps_set (i := 5) scD.nd rfl (.inl rfl) (pe_lst (pa_cons pe_int (pa_cons pe_int (pa_cons pe_int (pa_cons pe_int (pa_cons pe_int pa_nil)))))))) (
      pss_cons (by exact (ps_set (i := 6) scD.nd rfl (.inl rfl) (pe_ix ix_list (pv 5) (pe_op op_modN (pe_callTy call_int1 (by rfl) T.int (by decide +kernel) (pa_cons (pv 3) pa_nil)) pe_int) (fun _ _ => rfl)))) (
      pss_cons (by exact (ps_set (i := 7) scD.nd rfl (.inl rfl) (pe_op op_modN (pe_callTy call_int1 (by rfl) T.int (by decide +kernel) (pa_cons
          (pe_op op_add (pe_op op_add (pe_op op_mul (pe_op op_modN (pe_callTy call_int1 (by rfl) T.int (by decide +kernel) (pa_cons (pv 4) pa_nil)) (pv 6)) pe_int)
            (pe_op op_mul (pv 3) (pe_op op_add (pe_op op_mul pe_int (pv 3)) pe_int))) pe_int) pa_nil)) (pv 6)))) (
      pss_cons (by exact (ps_set (i := 7) scD.nd rfl (.inl rfl) (pe_op op_modN (pe_callTy call_int1 (by rfl) T.int (by decide +kernel) (pa_cons (pe_op op_mul (pv 7) (pe_op op_add (pv 7) pe_int)) pa_nil))
          (pe_ix ix_list (pv 5) (pe_op op_modN (pe_callTy call_int1 (by rfl) T.int (by decide +kernel) (pa_cons (pe_op op_add (pv 3) pe_int) pa_nil)) pe_int) (fun _ _ => rfl))))) (
      pss_one (by exact (ps_ret (pe_op op_modN (pe_callTy call_int1 (by rfl) T.int (by decide +kernel) (pa_cons (pe_op op_fdiv (pe_op op_mod (pe_callTy call_int1 (by rfl) T.int (by decide +kernel) (pa_cons
          (pe_op op_add (pe_op op_add (pe_op op_mul (pv 7) (pv 7)) (pe_op op_mul pe_int (pv 7))) (pv 3)) pa_nil)) pe_int) pe_int) pa_nil)) (pv 1)))))))))))))), ?_⟩
    have ns0 : span ≠ 0 := by omega
    have nsb : span.natAbs < 1073741824 := by omega
    -- left > 0
    refine ⟨_, rfl, d, _, rfl, p.getL, _, _, rfl, rfl, _, rfl, ?_⟩
    refine ite2 (fun _ => ?_) (fun _ => ?_)
    · refine ⟨_, rfl, d, _, rfl, p.getL, .inl ⟨_, rfl, _, rfl, _, _, rfl, rfl, ns0, ?_⟩⟩
      refine ⟨_, rfl, d, _, rfl, p.getL, _, rfl, _, _, rfl, rfl, ⟨ns0, nsb⟩, _, rfl, d, _, rfl, DPut.k (k := kL) p.dc p.small, ?_⟩
      refine ⟨_, rfl, ?_⟩
      obtain ⟨r0, r1⟩ := fmod_in (a := l) (b := span) (by omega)
      exact k _ _ r0 r1 ((p.putL _).more (by omega)) but_upd
    -- turn, turn + 1, cell
    · refine ⟨_, rfl, d, _, rfl, p.getT, ?_⟩
      refine ⟨_, rfl, _, _, rfl, rfl, _, rfl, d, _, rfl, DPut.k (k := kT) p.dc p.small, ?_⟩
      have p1 := p.putT
      have b1 : But d H (upd H d (.dK (putK kvs kT (.int (t + 1))))) := but_upd
      generalize upd H d (.dK (putK kvs kT (.int (t + 1)))) = H1 at p1 b1
      clear p
      generalize putK kvs kT (.int (t + 1)) = kvs1 at p1
      have t1 := p1.t0
      have t2 := p1.tn
      refine ⟨_, rfl, _, _, rfl, rfl, .inl ⟨by decide, by decide⟩, _, _, rfl, rfl, ?_⟩
      -- the cell
      refine ⟨_, rfl, d, _, rfl, p1.getC, (by show 0 ≤ sizeLine; decide), fun l0 hl0 => ?_⟩
      have p2 := p1.keep (same_upd (o := .lst []) hl0)
      have b2 : But d H (upd H1 l0 (.lst [])) := b1.trans (But.same (same_upd hl0))
      refine ⟨.list (ns.map PyData.int), .list [], .lst (SqL.of p2.cs) (dp_ints ns), .lst (SqL.of upd_same) .nil, shaped_ints ns, rfl, _, rfl, ?_⟩
      generalize upd H1 l0 (.lst []) = H2 at p2 b2
      refine ite2 (fun hne => ?ga) (fun _ => ?gb)
      case' ga =>
        have npos : 0 < ((ns.map V.int).length : Int) := by
          cases ns with
          | nil => exact absurd hne (by decide)
          | cons a r => rw [List.map_cons, List.length_cons]; omega
        obtain ⟨j, v, e1, e2⟩ := at_fmod (xs := ns.map V.int) (k := t) npos
        obtain ⟨z, rfl⟩ : ∃ z, v = V.int z := by
          rw [List.getElem?_map] at e2
          cases e : ns[j]? with
          | none => rw [e]
                at e2; cases e2
          | some z => rw [e] at e2; exact ⟨z, (Option.some.inj e2).symm⟩
        refine ⟨_, rfl, d, _, rfl, p2.getC, _, rfl, .inl ⟨_, rfl, _, rfl, d, _, rfl, p2.getC, c, _, rfl, .inl (SqL.of p2.cs), _, _, rfl, rfl, (by omega), c, _, _, _, rfl, rfl, SqL.of p2.cs, (by rw [e1]; exact atI_nat e2), ?_⟩⟩
      case' gb =>
        (try dsimp only)
        generalize 43 * t + 19 = z
      all_goals
        refine ⟨_, rfl, _, rfl, d, _, rfl, p2.getC, c, _, rfl, .inl (SqL.of p2.cs), _, _, rfl, rfl, _, rfl, ?_⟩
        refine ite2 (fun _ => ?_) (fun _ => ?_)
      case' ga.refine_1 =>
        refine ⟨_, rfl, _, rfl, _, _, rfl, rfl, ⟨by decide, by decide, by decide⟩, _, _, rfl, rfl, _, rfl, ?_⟩
        refine ite2 (fun _ => ?u1) (fun _ => ?u2)
      case' gb.refine_1 =>
        refine ⟨_, rfl, _, rfl, _, _, rfl, rfl, ⟨by decide, by decide, by decide⟩, _, _, rfl, rfl, _, rfl, ?_⟩
        refine ite2 (fun _ => ?v1) (fun _ => ?v2)
      case' u1 =>
        refine ⟨_, rfl, _, rfl, _, _, rfl, rfl, ⟨by decide, by decide, by decide⟩, _, _, rfl, rfl, _, rfl, _, _, rfl, rfl, ⟨ns0, nsb⟩, _, rfl, d, _, rfl, DPut.k (k := kL) p2.dc p2.small, ?_⟩
        refine ⟨_, rfl, _, rfl, _, _, rfl, rfl, ⟨by decide, by decide, by decide⟩, _, _, rfl, rfl, _, rfl, _, _, rfl, rfl, ns0, ?_⟩
        generalize (if z < 0 then -z else z) - (10 : Int) ^ (18 : Int).toNat = y
        obtain ⟨r0, r1⟩ := fmod_in (a := y) (b := span) (by omega)
        exact k _ _ r0 r1 ((p2.putL _).more (by omega)) (b2.trans but_upd)
      case' v1 =>
        refine ⟨_, rfl, _, rfl, _, _, rfl, rfl, ⟨by decide, by decide, by decide⟩, _, _, rfl, rfl, _, rfl, _, _, rfl, rfl, ⟨ns0, nsb⟩, _, rfl, d, _, rfl, DPut.k (k := kL) p2.dc p2.small, ?_⟩
        refine ⟨_, rfl, _, rfl, _, _, rfl, rfl, ⟨by decide, by decide, by decide⟩, _, _, rfl, rfl, _, rfl, _, _, rfl, rfl, ns0, ?_⟩
        obtain ⟨r0, r1⟩ := fmod_in (a := (if z < 0 then -z else z) - (10 : Int) ^ (18 : Int).toNat) (b := span) (by omega)
        exact k _ _ r0 r1 ((p2.putL _).more (by omega)) (b2.trans but_upd)
      all_goals
        obtain ⟨q, e1, q2, q3⟩ := prime_at (k := t)
        obtain ⟨q', e1', q2', q3'⟩ := prime_at (k := t + 2)
        refine ⟨(by show 5 ≤ sizeLine; decide), fun l1 hl1 => ?_⟩
        have p3 := p2.keep (same_upd (o := .lst (primesI.map V.int)) hl1)
        have b3 : But d H (upd H2 l1 (.lst (primesI.map V.int))) := b2.trans (But.same (same_upd hl1))
        have hp : (upd H2 l1 (.lst (primesI.map V.int))) l1 = some (.lst (primesI.map V.int)) := upd_same
        refine ⟨_, rfl, _, rfl, .inl ⟨_, rfl, _, _, rfl, rfl, (by show (5 : Int) ≠ 0; decide), l1, primesI.map V.int, _, _, rfl, rfl, SqL.of hp, e1, ?_⟩⟩
        obtain ⟨x0, x1⟩ := fmod_in (a := z) (b := q) (by omega)
        refine ⟨_, rfl, .inl ⟨_, rfl, _, rfl, _, _, rfl, rfl, (by omega), _, _, rfl, rfl, .inr ⟨by decide, by decide⟩, _, rfl, _, rfl, _, _, rfl, rfl, .inl ⟨by decide, by decide⟩, _, _, rfl, rfl, _, _, rfl, rfl, .inl ⟨by omega, by omega⟩,
          _, _, rfl, rfl, _, _, rfl, rfl, .inl ⟨_, rfl, _, rfl, _, _, rfl, rfl, (by omega), ?_⟩⟩⟩
        obtain ⟨y0, y1⟩ := fmod_in (a := z.fmod q * 39373 + t * (30011 * t + 8117) + 23) (b := q) (by omega)
        (try dsimp only)
        generalize (z.fmod q * 39373 + t * (30011 * t + 8117) + 23).fmod q = y' at y0 y1 ⊢
        refine ⟨_, rfl, _, rfl, _, _, rfl, rfl, _, _, rfl, rfl, .inl ⟨by omega, by omega⟩, .inl ⟨_, rfl, _, rfl, _, rfl, _, _, rfl, rfl, .inl ⟨_, rfl, _, _, rfl, rfl, (by show (5 : Int) ≠ 0; decide), l1, primesI.map V.int, _, _, rfl, rfl, SqL.of hp, e1', _, _, rfl, rfl, (by omega), ?_⟩⟩⟩
        obtain ⟨w0, w1⟩ := fmod_in (a := y' * (y' + 69621)) (b := q') (by omega)
        (try dsimp only)
        generalize (y' * (y' + 69621)).fmod q' = w at w0 w1 ⊢
        refine ⟨_, rfl, _, rfl, _, _, rfl, rfl, .inl ⟨by omega, by omega⟩, _, rfl, _, _, rfl, rfl, .inl ⟨by decide, by decide⟩, _, _, rfl, rfl, _, rfl, _, _, rfl, rfl, .inl ⟨_, rfl, _, _, rfl, rfl, (by show (0 : Int) < 2147483549; decide), _, _, rfl, rfl, ⟨by decide, by decide⟩, .inl ⟨_, rfl, _, rfl, _, _, rfl, rfl, ns0, ?_⟩⟩⟩
        (try dsimp only)
        generalize (w * w + 16807 * w + t) % 2147483549 / 64 = u
        obtain ⟨r0, r1⟩ := fmod_in (a := u) (b := span) (by omega)
        exact k _ _ r0 r1 (p3.more (by omega)) b3
end
theorem cutInts (ns : List Int) (lo hi : Option Int) : ∃ ms : List Int, cutV (ns.map V.int) lo hi = ms.map V.int ∧ ms.length ≤ ns.length := by
  unfold cutV
  rw [← List.map_drop, ← List.map_take]
  refine ⟨_, rfl, ?_⟩
  rw [List.length_take,
        List.length_drop]
  omega
section
variable {P : Program} {w : World} {K : PySem.W.Frag} {mg : Str → Option Value} {base : Heap}
theorem scN : FnScope ["_law_script"] ["_law_script"] (defScope sPen) := ⟨rfl, rfl, rfl, by decide +kernel, rfl, by decide +kernel, by decide +kernel⟩
theorem ok_pen {f : Addr} {fd : FuncData} (F : Fun K "_law_pen" "_law_pen" sPen f fd) (T : Txt mg) : FnOk P w K mg base CX0 1 f fd ["_law_script"] (spPen K) := by
  refine F.ok scN (fun vs H Q E h => ?_) (fun cdv A outer s H vs Q E hr h => ?_)
  · obtain ⟨a, ns, rfl, _⟩ := h
    rfl
  · obtain ⟨a, ns, rfl, hS, hl, k⟩ := h
    refine ⟨_, pss_one (by exact (ps_ret (pe_disp (pps_cons pe_str (pe_callTy call_list_of (by rfl) T.list (by decide +kernel) (pa_cons (pe_slice sl_list (pv 0) po_none (po_some pe_int)) pa_nil)) (pps_cons pe_str pe_int (pps_cons pe_str pe_int pps_nil))) (by rfl) (by rfl) (fun z => by cases z) (by decide)))), ?_⟩
    intro d nd
    have s1 : Same H (upd H d (.dK [])) := same_upd nd
    obtain ⟨ms, em, lm⟩ := cutInts ns none (some 63)
    refine ⟨_, rfl, _, rfl, a, _, rfl, s1.seq hS, fun p np => ?_⟩
    have s2 : Same (upd H d (.dK [])) (upd (upd H d (.dK [])) p (.lst (cutV (ns.map V.int) none (some 63)))) := same_upd np
    refine ⟨p, _, rfl, .inl (SqL.of upd_same), fun c nc => ?_⟩
    have s3 : Same (upd (upd H d (.dK [])) p (.lst (cutV (ns.map V.int) none (some 63)))) (upd (upd (upd H d (.dK [])) p (.lst (cutV (ns.map V.int) none (some 63)))) c (.lst (cutV (ns.map V.int) none (some 63)))) := same_upd nc
    have hd := (s2.trans s3) _ _ (upd_same (H := H) (a := d) (o := .dK []))
    refine ⟨hd, [(kC, .ref c), (kT, .int 0), (kL, .int 0)], rfl, by show 3 ≤ 15; decide, ?_⟩
    have ncd : c ≠ d := Ne.symm (ne_of_none (s2 _ _ upd_same) nc)
    refine k d c ms _ ⟨_, 0, 0, upd_same, ?_, ?_, ?_, Int.le_refl _, Int.le_refl _, ?_, ?_, by omega⟩ (fun b o e => ?_) nd ?_
    · show valV (putK (putK (putK [] kC (.ref c)) kT (.int 0)) kL (.int 0)) kC = _
      rw [valV_put, if_neg nCL, valV_put, if_neg nCT, valV_put, if_pos rfl]
    · show valV (putK (putK (putK [] kC (.ref c)) kT (.int 0)) kL (.int 0)) kT = _
      rw [valV_put, if_neg nTL, valV_put, if_pos rfl]
    · show valV (putK (putK (putK [] kC (.ref c)) kT (.int 0)) kL (.int 0)) kL = _
      rw [valV_put, if_pos rfl]
    · exact length_mergeK _ _
    · rw [upd_ne ncd, upd_same, em]
    · rw [upd_ne (ne_of_none e nd)]
      exact (s1.trans (s2.trans s3)) _ _ e
    · exact (s1.trans s2).free nc
end
end LA
end
section
set_option Elab.async false
set_option linter.all false
set_option maxRecDepth 100000
set_option maxHeartbeats 4100000
namespace LA
open PySem L2 XS
abbrev sSigns : Stmt := top 32
abbrev sFew : Stmt := top 33
abbrev sRow : Stmt := top 34
def Lt (c : Nat) : Prop := 32 ≤ c ∧ c ≤ 126 ∧ c ≠ 37
instance : DecidablePred Lt := fun c => inferInstanceAs (Decidable (_ ∧ _ ∧ _))
/-- two or three unlike letters -/
structure Sgn (z : Str) : Prop where
  lets : ∀ c ∈ cod z, Lt c
  nd : (cod z).Nodup
  two : 2 ≤ z.length
  three : z.length ≤ 3
  nq : ∀ c ∈ cod z, c ≠ 113
def sgsZ : Str := " !\"#$&'()*+,-./0123456789:;<=>?@ABCDEFGHIJKLMNOPQRSTUVWXYZ[\\]^_`abcdefghijklmnopqrstuvwxyz{|}~"
theorem few_lets : ∀ c ∈ cod (Txt.replace sgsZ "q" ""), Lt c := by decide +kernel
theorem few_nq : ∀ c ∈ cod (Txt.replace sgsZ "q" ""), c ≠ 113 := by decide +kernel
theorem few_len : (Txt.replace sgsZ "q" "").length = 93 := by decide +kernel
theorem sg_str (c : Nat) : (V.str (sg c)) = V.str ⟨#[c]⟩ := rfl
theorem len_sg (c : Nat) : (sg c).length = 1 := rfl
section
variable {P : Program} {w : World} {K : PySem.W.Frag} {mg : Str → Option Value} {base : Heap}
/-- pick: of a list, or of a text -/
def spPick : Sp := fun vs H Q _ => ∃ (d c : Addr) (n : Int) (ns : List Int) (o : V), vs = [.ref d, o] ∧ PenAt H d c n ns ∧ n < 1000000 ∧
  ((∃ (l : Addr) (xs : List V), o = .ref l ∧ H l = some (.lst xs) ∧ 0 < xs.length ∧ xs.length < 1000000 ∧ ∀ (v : V) (H' : Hp), v ∈ xs → PenAt H' d c (n + 1) ns → But d H H' → Q v H') ∨
   (∃ (z : Str), o = .str z ∧ 0 < z.length ∧ z.length < 1000000 ∧ ∀ (k : Nat) (H' : Hp), k ∈ cod z → PenAt H' d c (n + 1) ns → But d H H' → Q (.str (sg k)) H'))
theorem scP : FnScope ["_law_pen_here", "_law_options"] ["_law_pen_here", "_law_options"] (defScope sPick) := ⟨rfl, rfl, rfl, by decide +kernel, rfl, by decide +kernel, by decide +kernel⟩
theorem ok_pick {f fD : Addr} {fd fdD : FuncData} (F : Fun K "_law_pick" "_law_pick" sPick f fd) (T : Txt mg) (GD : FnOk P w K mg base CX0 1 fD fdD ["_law_pen_here", "_law_span"] spDraw) (mD : mg "_law_draw" = some (.ref fD)) (kD : PySem.W.keepIn K (.ref fD) = true) (bD : Binds K fdD ["_law_pen_here", "_law_span"] []) :
    FnOk P w K mg base CX0 2 f fd ["_law_pen_here", "_law_options"] spPick := by
  refine F.ok scP (fun vs H Q E h => ?_) (fun cdv A outer s H vs Q E hr h => ?_)
  · obtain ⟨d, c, n, ns, o, rfl, _⟩ := h
    rfl
  · obtain ⟨d, c, n, ns, o, rfl, pen, hn, k⟩ := h
    refine ⟨_, pss_one (by exact (ps_ret (pe_ix ix_seq (pv 1) (pe_call GD hr rfl mD kD bD .nil pass0 (pa_cons (pv 0) (pa_cons (pe_callB call_len (by rfl) T.len PySem.boot_len (pa_cons (pv 1) pa_nil)) pa_nil))) (fun _ _ => rfl)))), ?_⟩
    rcases k with ⟨l, xs, rfl, hl, h0, h1, k⟩ | ⟨z, rfl, h0, h1, k⟩
    · have nld : l ≠ d := by
        obtain ⟨_, _, _, p⟩ := pen
        exact ne_of hl p.dc (by intro z; cases z)
      refine ⟨_, rfl, _, rfl, _, rfl, _, xs.length, rfl, .inl ⟨_, SqL.of hl, rfl⟩, ?_⟩
      refine ⟨d, c, n, ns, (xs.length : Int), rfl, pen, hn, by omega, by omega, fun r H' r0 r1 pen' but => ?_⟩
      obtain ⟨j, rfl⟩ := Int.eq_ofNat_of_zero_le r0
      have hj : j < xs.length := by omega
      refine .inl ⟨l, xs, _, xs[j], rfl, rfl, SqL.of (but _ _ hl nld), atI_nat (List.getElem?_eq_getElem hj), ?_⟩
      exact k _ _ (List.getElem_mem hj) pen' but
    · refine ⟨_, rfl, _, rfl, _, rfl, _, z.length, rfl, ⟨Nat.le_trans (Nat.le_of_lt h1) (by decide), rfl⟩, ?_⟩
      refine ⟨d, c, n, ns, (z.length : Int), rfl, pen, hn, by omega, by omega, fun r H' r0 r1 pen' but => ?_⟩
      obtain ⟨j, rfl⟩ := Int.eq_ofNat_of_zero_le r0
      have hj : j < (cod z).length := by rw [len_cod]; omega
      refine .inr (.inr ⟨z, _, (cod z)[j], rfl, rfl, Nat.le_trans (Nat.le_of_lt h1) (by decide), atI_nat (List.getElem?_eq_getElem hj), ?_⟩)
      exact k _ _ (List.getElem_mem hj) pen' but
structure PickAt (P : Program) (w : World) (K : PySem.W.Frag) (mg : Str → Option Value) (base : Heap) (f : Addr) (fd : FuncData) : Prop where
  ok : FnOk P w K mg base CX0 2 f fd ["_law_pen_here", "_law_options"] spPick
  m : mg "_law_pick" = some (.ref f)
  k : PySem.W.keepIn K (.ref f) = true
  b : Binds K fd ["_law_pen_here", "_law_options"] []
/-- few: two or three unlike letters -/
def spFew : Sp := fun vs H Q _ => ∃ (d c : Addr) (n : Int) (ns : List Int), vs = [.ref d] ∧ PenAt H d c n ns ∧ n + 4 < 1000000 ∧
  ∀ (z : Str) (H' : Hp), Sgn z → PenAt H' d c (n + 4) ns → But d H H' → Q (.str z) H'
theorem scF : FnScope ["_law_pen_here", "_law_some", "_law_rare", "_law_k"] ["_law_pen_here"] (defScope sFew) := ⟨rfl, rfl, rfl, by decide +kernel, rfl, by decide +kernel, by decide +kernel⟩
theorem scG : FnScope [] [] (defScope sSigns) := ⟨rfl, rfl, rfl, by decide +kernel, rfl, by decide +kernel, by decide +kernel⟩
def cs (l : List Nat) : List V := l.map fun c => V.str (sg c)
theorem cs_flat (l : List Nat) : (cs l).all flatV = true := by
  simp [cs, flatV]
theorem cs_in (c : Nat) (l : List Nat) : inV (.str (sg c)) (cs l) = decide (c ∈ l) := by
  induction l with
  | nil => rfl
  | cons a r ih =>
    have h : inV (.str (sg c)) (cs (a :: r)) = (eqV (.str (sg a)) (.str (sg c)) || inV (.str (sg c)) (cs r)) := rfl
    rw [h, ih]
    show ((sg a == sg c) || _) = _
    by_cases e : a = c
    · subst e
      simp
    · have : (sg a == sg c) = false := by
        rw [beq_eq_false_iff_ne]
        exact fun z => e (sg_inj z)
      rw [this, Bool.false_or]
      have e' : ¬ c = a := fun z => e z.symm
      simp [e']
theorem cs_cut (l : List Nat) (i : Nat) : cutV (cs l) none (some (i : Int)) = cs (l.take i) := by
  unfold cutV cs
  rw [HT.sIx_nat, HT.sIx_none, List.drop_zero, List.length_map, Nat.sub_zero, ← List.map_take]
  congr 1
  rw [List.take_eq_take_iff]
  omega
theorem cs_strs (l : List Nat) : cs l = (l.map sg).map V.str := by
  unfold cs
  rw [List.map_map]
  rfl
theorem sum_sg (l : List Nat) : ((l.map sg).map (·.length)).sum = l.length := by
  induction l with
  | nil => rfl
  | cons a r ih =>
    rw [List.map_cons, List.map_cons, List.sum_cons, ih, len_sg, List.length_cons]
    omega
theorem sgn_some : ∀ z ∈ (["ab", "abc", "a ", "x~", "01", "\"\\"] : List Str), Sgn z := by
  intro z hz
  simp only [List.mem_cons, List.not_mem_nil, or_false] at hz
  rcases hz with rfl | rfl | rfl | rfl | rfl | rfl <;> exact ⟨by decide +kernel, by decide +kernel, by decide +kernel, by decide +kernel, by decide +kernel⟩
theorem yz_nq : ∀ c ∈ cod "yz", c ≠ 113 := by decide +kernel
theorem yz_lets : ∀ c ∈ cod "yz", Lt c ∧ c ≠ 40 := by decide +kernel
theorem par_is : ∀ c ∈ cod "(", c = 40 := by decide +kernel
theorem PenAt.put {H : Hp} {d c D : Addr} {n : Int} {ns : List Int} {o : HO} (p : PenAt H d c n ns) (h1 : D ≠ d) (h2 : D ≠ c) : PenAt (upd H D o) d c n ns := by
  obtain ⟨kvs, t, l, q⟩ := p
  exact ⟨kvs, t, l, by rw [upd_ne h1.symm]; exact q.dc, q.vc, q.vt, q.vl, q.t0, q.tn, q.sz, by rw [upd_ne h2.symm]; exact q.cs, q.cl⟩
theorem PenAt.fresh {H : Hp} {d c D : Addr} {n : Int} {ns : List Int} (p : PenAt H d c n ns) (h : H D = none) : D ≠ d ∧ D ≠ c := by
  obtain ⟨kvs, t, l, q⟩ := p
  exact ⟨(ne_of_none q.dc h).symm, (ne_of_none q.cs h).symm⟩
theorem PenAt.n0 {H : Hp} {d c : Addr} {n : Int} {ns : List Int} (p : PenAt H d c n ns) : 0 ≤ n := by
  obtain ⟨kvs, t, l, q⟩ := p
  exact Int.le_trans q.t0 q.tn
theorem But.none {d D : Addr} {H G : Hp} (b : But d H G) (n : D ≠ d) (h : G D = Option.none) : H D = Option.none := by
  cases e : H D with
  | none => rfl
  | some o => exact absurd ((b _ _ e n).symm.trans h) (by simp)
theorem But.put {d D : Addr} {H G : Hp} {o : HO} (b : But d H G) (h : H D = Option.none) : But d H (upd G D o) := fun c u e n => by
  rw [upd_ne (ne_of_none e h)]
  exact b c u e n
theorem ok_few {f fS fP : Addr} {fd fdS fdP : FuncData} (F : Fun K "_law_few" "_law_few" sFew f fd) (T : Txt mg) (mR : mg "range" = none) (M : PickAt P w K mg base fP fdP) (FS : Fun K "_law_signs" "_law_signs" sSigns fS fdS) (bS : ∀ s, BindsTo s fdS ⟨[], []⟩ []) (mS : mg "_law_signs" = some (.ref fS)) :
    FnOk P w K mg base CX0 3 f fd ["_law_pen_here"] spFew := by
  refine F.ok scF (fun vs H Q E h => ?_) (fun cdv A outer s H vs Q E hr h => ?_)
  · obtain ⟨d, c, n, ns, rfl, _⟩ := h
    rfl
  · obtain ⟨d, c, n, ns, rfl, pen, hn, k⟩ := h
    have hr2 : Room 2 _ := hr.mono (by decide)
    have hr1 : Room 1 _ := hr.mono (by decide)
    refine ⟨_, pss_cons (by exact (ps_set (i := 1) scF.nd rfl (Or.inr rfl) (pe_lst (pa_cons (pe_call M.ok hr2 rfl M.m M.k M.b .nil pass0 (pa_cons (pv 0) (pa_cons (XS.pe_litRepl FS scG rfl bS rfl hr1 mS (by decide +kernel) (by decide +kernel)) pa_nil))) (pa_cons (pe_call M.ok hr2 rfl M.m M.k M.b .nil pass0 (pa_cons (pv 0) (pa_cons pe_str pa_nil))) (pa_cons (pe_call M.ok hr2 rfl M.m M.k M.b .nil pass0 (pa_cons (pv 0) (pa_cons pe_str pa_nil))) pa_nil)))))) (
      pss_cons (by exact (ps_set (i := 2) scF.nd rfl (.inl rfl) (pe_join pe_str (pe_lc (own := [("_law_k", 3)]) (g := gName 3) (tt := tTest (tOp (rIn K true) (tOp (rIxL K) (tVar 1) (tVar 3)) (tSl (rSlL K) (tVar 1) tNoPart (tPart (tVar 3))))) (te := tOp (rIxL K) (tVar 1) (tVar 3)) rfl scF.nd (pi_range1 rfl mR (pa_cons pe_int pa_nil))
        (blkOk_by (N := ["_law_pen_here", "_law_some", "_law_rare", "_law_k"]) (sc := defScope sFew) (by decide +kernel))
        (fun _ _ _ _ _ => by exact (pg_name (i := 3) scF.nd rfl (Or.inl rfl)))
        (fun _ _ _ _ _ => by exact (pts_one (pt_cmpR op_notIn_seq (pe_ix ix_list (pv 1) (pv 3) (fun _ _ => rfl)) (pe_slice sl_list (pv 1) po_none (po_some (pv 3))) (by rfl))))
        (fun _ _ _ _ _ => by exact (pe_ix ix_list (pv 1) (pv 3) (fun _ _ => rfl))))))) (
      pss_one (by exact (ps_ret (pe_call M.ok hr2 rfl M.m M.k M.b .nil pass0 (pa_cons (pv 0) (pa_cons (pe_lst (pa_cons pe_str (pa_cons pe_str (pa_cons pe_str (pa_cons pe_str (pa_cons pe_str (pa_cons pe_str (pa_cons pe_str (pa_cons pe_str (pa_cons (pv 2) pa_nil)))))))))) pa_nil))))))), ?_⟩
    refine ⟨_, rfl, d, c, n, ns, _, rfl, pen, by omega, .inr ⟨_, rfl, (by show 0 < (Txt.replace sgsZ "q" "").length; rw [few_len]; decide), (by show (Txt.replace sgsZ "q" "").length < 1000000; rw [few_len]; decide), fun a H1 ha pen1 b1 => ?_⟩⟩
    refine ⟨_, rfl, d, c, n + 1, ns, _, rfl, pen1, by omega, .inr ⟨_, rfl, (by decide +kernel), (by decide +kernel), fun b H2 hb pen2 b2 => ?_⟩⟩
    refine ⟨_, rfl, d, c, n + 1 + 1, ns, _, rfl, pen2, by omega, .inr ⟨_, rfl, (by decide +kernel), (by decide +kernel), fun e H3 he pen3 b3 => ?_⟩⟩
    obtain ⟨lb, nb⟩ := yz_lets b hb
    have la := few_lets a ha
    have qa := few_nq a ha
    have qb := yz_nq b hb
    have le := par_is e he
    subst le
    refine ⟨(by show 3 ≤ sizeLine; decide), fun L nL => ?_⟩
    have bb : But d H (upd H3 L (.lst (cs [a, b, 40]))) := ((b1.trans b2).trans b3).trans (But.same (same_upd nL))
    have pen4 := pen3.keep (same_upd (o := .lst (cs [a, b, 40])) nL)
    have hL : (upd H3 L (.lst (cs [a, b, 40]))) L = some (.lst (cs [a, b, 40])) := upd_same
    refine ⟨⟨_, rfl⟩, ?_⟩
    refine ⟨3, rfl, by decide, by decide, fun D nD => ?_⟩
    have nLD : L ≠ D := ne_of_none hL nD
    obtain ⟨nDd, nDc⟩ := pen4.fresh nD
    have nH : H D = none := bb.none nDd nD
    have hb0 : ∀ i, i < 3 → ∃ x, [a, b, 40][i]? = some x := fun i hi => ⟨[a, b, 40][i], List.getElem?_eq_getElem hi⟩
    refine lc_range (fun i G => ∃ ds : List Nat, G D = some (.lst (cs ds)) ∧ ds.Nodup ∧ (∀ x, x ∈ ds ↔ x ∈ [a, b, 40].take i) ∧ ds.length ≤ i ∧ G L = some (.lst (cs [a, b, 40])) ∧ PenAt G d c (n + 1 + 1 + 1) ns ∧ But d H G)
      ⟨[], upd_same, List.nodup_nil, fun x => by simp, Nat.le_refl _, (same_upd nD) _ _ hL, pen4.keep (same_upd nD), bb.trans (But.same (same_upd nD))⟩ (fun i G hi p => ?_) (fun G p => ?_)
    · obtain ⟨ds, pD, nd, mem, len, pL, pP, pB⟩ := p
      obtain ⟨x, hx⟩ := hb0 i hi
      have hx' : (cs [a, b, 40])[i]? = some (V.str (sg x)) := by
        unfold cs
        rw [List.getElem?_map, hx]
        rfl
      refine ⟨rfl, ?_⟩
      refine ⟨_, rfl, _, rfl, L, _, _, _, rfl, rfl, SqL.of pL, (by rw [Int.zero_add]; exact atI_nat hx'), ?_⟩
      refine ⟨_, rfl, _, rfl, _, rfl, L, _, rfl, SqL.of pL, fun S nS => ?_⟩
      rw [Int.zero_add, cs_cut]
      refine ⟨S, cs ([a, b, 40].take i), rfl, .inl (SqL.of upd_same), rfl, cs_flat _, _, rfl, ?_⟩
      rw [if_pos rfl, cs_in]
      have sm := fun o => same_upd (o := o) nS
      have tk : [a, b, 40].take (i + 1) = [a, b, 40].take i ++ [x] := by rw [List.take_succ, hx]; rfl
      by_cases mx : x ∈ [a, b, 40].take i
      · rw [decide_eq_true mx]
        refine iteF ⟨ds, sm _ _ _ pD, nd, fun y => ?_, by omega, sm _ _ _ pL, pP.keep (sm _), pB.trans (But.same (sm _))⟩
        rw [mem, tk, List.mem_append, List.mem_singleton]
        exact ⟨.inl, fun h => h.elim id fun e => e ▸ mx⟩
      · rw [decide_eq_false mx]
        refine iteT ?_
        refine ⟨_, rfl, _, rfl, L, _, _, _, rfl, rfl, SqL.of (sm _ _ _ pL), (atI_nat hx'), ?_⟩
        refine ⟨_, sm _ _ _ pD, Nat.lt_of_le_of_lt (by unfold cs; rw [List.length_map]; omega : _ ≤ 3) (by decide), ds ++ [x], ?_, ?_, ?_, ?_, ?_, ?_, ?_⟩
        · unfold cs
          rw [List.map_append]
          exact upd_same
        · rw [List.nodup_append]
          refine ⟨nd, List.nodup_cons.mpr ⟨by simp, List.nodup_nil⟩, fun y hy z hz => ?_⟩
          rw [List.mem_singleton] at hz
          subst hz
          exact fun e => mx (e ▸ (mem y).mp hy)
        · intro y
          rw [List.mem_append, mem, tk, List.mem_append]
        · rw [List.length_append]
          exact Nat.add_le_add len (Nat.le_refl 1)
        · rw [upd_ne nLD]
          exact sm _ _ _ pL
        · exact (pP.keep (sm _)).put nDd nDc
        · exact (pB.trans (But.same (sm _))).put nH
    · obtain ⟨ds, pD, nd, mem, len, pL, pP, pB⟩ := p
      replace mem : ∀ x, x ∈ ds ↔ x ∈ [a, b, 40] := mem
      replace len : ds.length ≤ 3 := len
      have hl : 2 ≤ ds.length := by
        rcases ds with _ | ⟨x, _ | ⟨y, r⟩⟩
        · exact absurd ((mem 40).mpr (by simp)) (by simp)
        · have h1 := (mem 40).mpr (by simp)
          have h2 := (mem b).mpr (by simp)
          rw [List.mem_singleton] at h1 h2
          exact absurd (h2.trans h1.symm) nb
        · simp
      refine ⟨_, D, ds.map sg, rfl, rfl, .inl (by rw [← cs_strs]; exact SqL.of pD), (by rw [sum_sg, List.length_map]; show ds.length + ds.length * 0 ≤ 16777216; omega), ?_⟩
      have ej : cod (Txt.join "" (ds.map sg)) = ds := join_sg ds
      have sj : Sgn (Txt.join "" (ds.map sg)) := by
        refine ⟨?_, ?_, ?_, ?_, ?_⟩
        · rw [ej]
          intro x hx
          have h := (mem x).mp hx
          simp only [List.mem_cons, List.not_mem_nil, or_false] at h
          rcases h with rfl | rfl | rfl
          · exact la
          · exact lb
          · decide
        · rw [ej]
          exact nd
        · rw [← len_cod, ej]
          exact hl
        · rw [← len_cod, ej]
          exact len
        · rw [ej]
          intro x hx
          have h := (mem x).mp hx
          simp only [List.mem_cons, List.not_mem_nil, or_false] at h
          rcases h with rfl | rfl | rfl
          · exact qa
          · exact qb
          · decide
      generalize Txt.join "" (ds.map sg) = rare at sj
      refine ⟨_, rfl, _, rfl, (by show 9 ≤ sizeLine; decide), fun N nN => ?_⟩
      have sN := same_upd (o := .lst [.str "ab", .str "ab", .str "abc", .str "abc", .str "a ", .str "x~", .str "01", .str "\"\\", .str rare]) nN
      refine ⟨d, c, n + 1 + 1 + 1, ns, _, rfl, pP.keep sN, by omega, .inl ⟨N, _, rfl, upd_same, (by show 0 < 9; decide), (by show 9 < 1000000; decide), fun v H' hv pen5 b5 => ?_⟩⟩
      have hs : ∃ z, v = .str z ∧ Sgn z := by
        simp only [List.mem_cons, List.not_mem_nil, or_false] at hv
        rcases hv with rfl | rfl | rfl | rfl | rfl | rfl | rfl | rfl | rfl
        all_goals first | exact ⟨_, rfl, sj⟩ | exact ⟨_, rfl, sgn_some _ (by simp)⟩
      obtain ⟨z, rfl, sz⟩ := hs
      exact k z H' sz (by have e : n + 1 + 1 + 1 + 1 = n + 4 := by omega
                          rw [← e]; exact pen5) ((pB.trans (But.same sN)).trans b5)
/-- row: a line of the letters -/
def spRow : Sp := fun vs H Q _ => ∃ (d c : Addr) (n : Int) (ns : List Int) (z : Str) (a b : Int), vs = [.ref d, .str z, .int a, .int b] ∧ PenAt H d c n ns ∧ n + 1 + b < 1000000 ∧ 0 < z.length ∧ z.length < 1000000 ∧ 0 ≤ a ∧ a ≤ b ∧
  ∀ (y : Str) (H' : Hp), (∀ c ∈ cod y, c ∈ cod z) → a ≤ y.length → (y.length : Int) ≤ b → PenAt H' d c (n + 1 + b) ns → But d H H' → Q (.str y) H'
theorem scR : FnScope ["_law_pen_here", "_law_signs_here", "_law_least", "_law_most_letters", "_law_span", "_law_k"] ["_law_pen_here", "_law_signs_here", "_law_least", "_law_most_letters"] (defScope sRow) := ⟨rfl, rfl, rfl, by decide +kernel, rfl, by decide +kernel, by decide +kernel⟩
theorem ok_row {f fD fP : Addr} {fd fdD fdP : FuncData} (F : Fun K "_law_row" "_law_row" sRow f fd) (T : Txt mg) (mR : mg "range" = none) (M : PickAt P w K mg base fP fdP) (GD : FnOk P w K mg base CX0 1 fD fdD ["_law_pen_here", "_law_span"] spDraw) (mD : mg "_law_draw" = some (.ref fD)) (kD : PySem.W.keepIn K (.ref fD) = true) (bD : Binds K fdD ["_law_pen_here", "_law_span"] []) :
    FnOk P w K mg base CX0 3 f fd ["_law_pen_here", "_law_signs_here", "_law_least", "_law_most_letters"] spRow := by
  refine F.ok scR (fun vs H Q E h => ?_) (fun cdv A outer s H vs Q E hr h => ?_)
  · obtain ⟨d, c, n, ns, z, a, b, rfl, _⟩ := h
    rfl
  · obtain ⟨d, c, n, ns, z, a, b, rfl, pen, hn, z0, z1, ha, hb, k⟩ := h
    have hr2 : Room 2 _ := hr.mono (by decide)
    have hr1 : Room 1 _ := hr.mono (by decide)
    refine ⟨_, pss_cons (by exact (ps_set (i := 4) scR.nd rfl (.inl rfl) (pe_op op_add (pv 2) (pe_call GD hr1 rfl mD kD bD .nil pass0 (pa_cons (pv 0) (pa_cons (pe_op op_add (pe_op op_sub (pv 3) (pv 2)) pe_int) pa_nil)))))) (
      pss_one (by exact (ps_ret (pe_join pe_str (pe_lc (own := [("_law_k", 5)]) (g := gName 5) (tt := tYes) (te := tCall spPick [] (fun _ _ _ => False) (tCons (tVar 0) (tCons (tVar 1) tNil))) rfl scR.nd (pi_range1 rfl mR (pa_cons (pv 4) pa_nil))
        (blkOk_by (N := ["_law_pen_here", "_law_signs_here", "_law_least", "_law_most_letters", "_law_span", "_law_k"]) (sc := defScope sRow) (by decide +kernel))
        (fun _ _ _ _ _ => by exact (pg_name (i := 5) scR.nd rfl (Or.inl rfl)))
        (fun _ _ _ _ _ => by exact pts_nil)
        (fun _ _ _ _ _ => by exact (pe_call M.ok hr2 rfl M.m M.k M.b .nil pass0 (pa_cons (pv 0) (pa_cons (pv 1) pa_nil))))))))), ?_⟩
    refine ⟨_, rfl, _, rfl, _, rfl, _, rfl, _, _, rfl, rfl, _, _, rfl, rfl, ?_⟩
    have n0 := pen.n0
    refine ⟨d, c, n, ns, _, rfl, pen, by omega, by omega, by omega, fun r H1 r0 r1 pen1 b1 => ?_⟩
    refine ⟨_, _, rfl, rfl, ⟨_, rfl⟩, ?_⟩
    refine ⟨_, rfl, a + r, rfl, by omega, by omega, fun D nD => ?_⟩
    obtain ⟨nDd, nDc⟩ := pen1.fresh nD
    have nH : H D = none := b1.none nDd nD
    refine lc_range (fun i G => ∃ ds : List Nat, G D = some (.lst (cs ds)) ∧ (∀ x ∈ ds, x ∈ cod z) ∧ ds.length = i ∧ PenAt G d c (n + 1 + i) ns ∧ But d H G)
      ⟨[], upd_same, (fun x hx => absurd hx (by simp)), rfl, (show PenAt _ d c (n + 1 + (0 : Int)) ns from (Int.add_zero (n + 1)).symm ▸ pen1.put nDd nDc), b1.put nH⟩ (fun i G hi p => ?_) (fun G p => ?_)
    · obtain ⟨ds, pD, mem, len, pP, pB⟩ := p
      refine ⟨rfl, ?_⟩
      dsimp only [tYes]
      rw [if_pos rfl]
      refine ⟨_, rfl, _, rfl, d, c, n + 1 + i, ns, _, rfl, pP, by omega, .inr ⟨z, rfl, z0, z1, fun x G1 hx pP1 b2 => ?_⟩⟩
      refine ⟨_, b2 _ _ pD nDd, Nat.lt_of_le_of_lt (by unfold cs; rw [List.length_map]; omega : _ ≤ 1000000) (by decide), ds ++ [x], ?_, ?_, ?_, ?_, ?_⟩
      · unfold cs
        rw [List.map_append]
        exact upd_same
      · intro y hy
        rcases List.mem_append.mp hy with h | h
        · exact mem y h
        · rw [List.mem_singleton] at h
          exact h ▸ hx
      · rw [List.length_append, len]
        rfl
      · have e : n + 1 + ((i + 1 : Nat) : Int) = n + 1 + i + 1 := by omega
        rw [e]
        exact pP1.put nDd nDc
      · exact (pB.trans b2).put nH
    · obtain ⟨ds, pD, mem, len, pP, pB⟩ := p
      replace len : ds.length = (a + r).toNat := len
      refine ⟨_, D, ds.map sg, rfl, rfl, .inl (by rw [← cs_strs]; exact SqL.of pD), (by rw [sum_sg, List.length_map]; show ds.length + ds.length * 0 ≤ 16777216; omega), ?_⟩
      have ej : cod (Txt.join "" (ds.map sg)) = ds := join_sg ds
      have el : (Txt.join "" (ds.map sg)).length = (a + r).toNat := by rw [← len_cod, ej, len]
      refine k _ _ (by rw [ej]; exact mem) (by rw [el]; omega) (by rw [el]; omega) ?_ pB
      obtain ⟨kvs, t', l', q⟩ := pP
      exact q.more (by show n + 1 + (((a + r).toNat : Nat) : Int) ≤ _; omega)
end
end LA
end
section
set_option Elab.async false
set_option linter.all false
set_option maxRecDepth 100000
set_option maxHeartbeats 4100000
namespace XT
open PySem PySem.Spec PyProof.Rows L2
/-! ### max of a list of ints, with what stands for none -/
section
variable {prog : Program} {w : World} {A : Around} {R : Result → Shared → Prop} {I S : Addr} {fp wr : List Addr} {n : Nat} {P : Nat → Value → Prop} {St : Nat → Heap → Prop} {bt : Nat → Nat → Bool} {d : Value}
def heldBy : Option Value → Array Value
  | none => #[]
  | some v => #[v, v]
def BestOf (P : Nat → Value → Prop) (bt : Nat → Nat → Bool) (d : Value) (n : Nat) (v : Value) : Prop := (n = 0 ∧ v = d) ∨ (0 < n ∧ P (argBest bt (n - 1)) v)
def Have (P : Nat → Value → Prop) (bt : Nat → Nat → Bool) (i : Nat) : Option Value → Prop
  | none => i = 0
  | some v => 0 < i ∧ P (argBest bt (i - 1)) v
theorem max_turns (W : Walks prog w A.in1 I fp wr n P St) (C : CmpOf prog w A.in1 .Gt P bt) (nS : S ∉ fp) : ∀ (k i : Nat) (s : Shared) (b : Option Value) (c : Nat), n = i + k → St i s.heap → Have P bt i b →
    s.heap.get? S = some { cls := .type "list", data := .seq (heldBy b) c } →
    (∀ v h' tk, BestOf P bt d n v → (∀ x o, x ∉ wr → x ≠ S → s.heap.get? x = some o → h'.get? x = some o) → R (.ok (.ret v)) { s with heap := h', toks := tk }) →
    codeAny (model prog w) A (.builtin "max.loop" ⟨[.ref I, .none, .ref S], [("default", d)]⟩) R s := by
  have nW : S ∉ wr := fun h => nS (W.sub _ h)
  intro k
  induction k with
  | zero =>
    intro i s b c e st hb hS q
    obtain rfl : n = i := e
    refine codeAny_builtin
          F.entry_max_loop ?_
    rw [Around.under_plainId
          F.plain_max_loop _]
    show wpAny _ _ (seqItems? (.ref S) >>= _) _ _ s
    refine wpAny_bind
          (wpAny_seqItems hS rfl ?_)
    show wpAny _ _ (tryCatch (pyNext (.ref I)) _ >>= _) _ _ s
    refine wpAny_bind (wpAny_tryCatch (W.done s _ _ st fun h' tk keep => ?_))
    cases b with
    | none =>
      obtain rfl : n = 0 := hb
      show wpAny _ _ (rule _ >>= _) _ _ _
      exact wpAny_bind (wpAny_rule (wpAny_pure (q d h' tk (.inl ⟨rfl, rfl⟩) fun x o h1 _ h3 => keep x o h1 h3)))
    | some v =>
      have hS2 := keep S _ nW hS
      show wpAny _ _ (updateSeq S (fun _ => #[]) >>= _) _ _ _
      refine wpAny_bind (wpAny_updateSeq hS2 rfl (wpAny_bind (wpAny_letGo (wpAny_pure ?_))) (hz := by show 2 ≤ sizeLine; decide))
      exact q v _ tk (.inr hb) fun x o h1 h2 h3 => (Heap.get?_update_other _ _ h2.symm).trans (keep x o h1 h3)
  | succ k ih =>
    intro i s b c e st hb hS q
    have lt : i < n := by omega
    have name : (toString "max" ++ toString ".loop" : String) = "max.loop" := by decide
    refine codeAny_builtin
          F.entry_max_loop ?_
    rw [Around.under_plainId
          F.plain_max_loop _]
    show wpAny _ _ (seqItems? (.ref S) >>= _) _ _ s
    refine wpAny_bind
          (wpAny_seqItems hS rfl ?_)
    show wpAny _ _ (tryCatch (pyNext (.ref I)) _ >>= _) _ _ s
    refine wpAny_bind (wpAny_tryCatch (W.item i s _ _ lt st fun v h' tk hv st2 keep => ?_))
    have hS2 := keep S _ nW hS
    have put : ∀ (x : Array Value), St (i + 1) (h'.update S (Obj.mapSeq fun _ => x)) := fun x => W.frame _ _ _ st2 fun y hy o ey => (Heap.get?_update_other _ _ (fun h : S = y => nS (h ▸ hy))).trans ey
    have old : ∀ (x : Array Value) (y : Addr) (o : Obj), y ∉ wr → y ≠ S → s.heap.get? y = some o → (h'.update S (Obj.mapSeq fun _ => x)).get? y = some o := fun x y o h1 h2 h3 => (Heap.get?_update_other _ _ h2.symm).trans (keep y o h1 h3)
    cases b with
    | none =>
      obtain rfl : i = 0 := hb
      show wpAny _ _ (updateSeq S (fun _ => #[v, v]) >>= _) _ _ _
      refine wpAny_bind
            (wpAny_updateSeq hS2 rfl ?_)
      rw [name]
      refine wpAny_pure ⟨plainId_quiet F.plain_max_loop _, ih 1 _ (some v) _ (by omega) (put _) ⟨Nat.one_pos, hv⟩ (Heap.get?_update_self _ hS2 rfl) fun z h2 t2 hz k2 => ?_⟩
      exact q z h2 t2 hz fun y o h1 h3 h4 => k2 y o h1 h3 (old _ y o h1 h3 h4)
    | some u =>
      obtain ⟨ip, hu⟩ := hb
      show wpAny _ _ (tryCatch (holding [v, v] (richCompare .Gt v u >>= _)) _ >>= _) _ _ _
      refine wpAny_bind (wpAny_tryCatch (wpAny_holding (wpAny_bind (C i (argBest bt (i - 1)) v u _ _ _ hv hu ?_))))
      refine wpAny_bind (wpAny_holding
            (wpAny_truthy_bool ?_))
      refine wpAny_bind
            (wpAny_letGo (wpAny_pure ?_))
      have step : argBest bt i = if bt i (argBest bt (i - 1)) then i else argBest bt (i - 1) := by
        cases i with
        | zero => exact absurd ip (Nat.lt_irrefl 0)
        | succ j => rfl
      cases hc : bt i (argBest bt (i - 1)) with
      | true =>
        rw [hc, if_pos rfl] at step
        simp only [if_true]
        refine wpAny_bind (wpAny_updateSeq hS2 rfl (wpAny_bind (wpAny_letGo ?_)) (hz := by show 2 ≤ sizeLine; decide))
        rw [name]
        refine wpAny_pure ⟨plainId_quiet F.plain_max_loop _, ih (i + 1) _ (some v) _ (by omega) (put _) ⟨Nat.succ_pos _, by rw [Nat.add_sub_cancel, step]; exact hv⟩ (Heap.get?_update_self _ hS2 rfl) fun z h2 t2 hz k2 => ?_⟩
        exact q z h2 t2 hz fun y o h1 h3 h4 => k2 y o h1 h3 (old _ y o h1 h3 h4)
      | false =>
        rw [hc, if_neg (by decide)] at step
        simp only [Bool.false_eq_true,
              if_false]
        refine wpAny_bind
              (wpAny_letGo ?_)
        rw [name]
        refine wpAny_pure ⟨plainId_quiet F.plain_max_loop _, ih (i + 1) _ (some u) c (by omega) st2 ⟨Nat.succ_pos _, by rw [Nat.add_sub_cancel, step]; exact hu⟩ hS2 fun z h2 t2 hz k2 => ?_⟩
        exact q z h2 t2 hz fun y o h1 h3 h4 => k2 y o h1 h3 (keep y o h1 h4)
end
section
variable {prog : Program} {w : World} {A : Around} {E : Value → Shared → Prop} {s : Shared} {l : Addr} {its : List Value} {ns : List Int} {Q : Value → Shared → Prop} {d : Value}
/-- a built-in function by keywords that goes on in a loop of its own -/
theorem call_goes {id : String} {b : Builtin} {args : List Value} {kw : List (Str × Value)} (hk : builtinKind id = none) (hp : plainId id = true) (hb : entryFor table id = some b) (ha : argsOk id ⟨args, kw⟩)
    (hc : wpAny (model prog w) A.in1 (b ⟨args, kw⟩) (fun fin s' => ∃ c, fin = .again c ∧ c.quiet = true ∧ codeAny (model prog w) A c (fun r s₁ => ∃ v, r = .ok (.ret v) ∧ Q v s₁) s') E s) :
    wpAny (model prog w) A (call
          (.builtin id) args kw) Q E s := by
  refine wpAny_call
        (codeAny_call_builtin hp hb ?_)
  have go : wpAny (model prog w) A.in1 (b ⟨args, kw⟩) (fun fin s' => match fin with
      | .done f => (match (Except.ok f : Result) with
        | .ok (.ret v) => Q v s'
        | .ok _ => False
        | .error e => E e s')
      | .again c' => c'.quiet = true ∧ codeAny (model prog w) A c' (fun r s' => match r with | .ok (.ret v) => Q v s' | .ok _ => False | .error e => E e s') s') E s := by
    refine wpAny_mono hc (fun fin s' q => ?_) fun _ _ e => e
    obtain ⟨c, rfl, q1, q2⟩ := q
    refine ⟨q1, codeAny_mono q2 fun r s1 q3 => ?_⟩
    obtain ⟨v, rfl, q4⟩ := q3
    exact q4
  simp only
        [checkBuiltinCall, hk]
  cases sg : Manifest.signature? id with
  | none => exact wpAny_pure go
  | some y =>
    have ok : Bind.checkArgs id y ⟨args, kw⟩ = pure () := by simpa only [argsOk, sg] using ha
    simp only [ok]
    exact wpAny_pure go
theorem max_dflt (hh : A.handled = none) (hl : s.heap.IsList l its.toArray) (hi : IntsAre its ns)
    (h : ∀ h' tk v, (∀ b o, s.heap.get? b = some o → h'.get? b = some o) → (ns = [] ∧ v = d) ∨ (∃ M t, v = .int M t ∧ M ∈ ns ∧ ∀ a ∈ ns, a ≤ M) → Q v { s with heap := h', toks := tk }) : wpAny (model prog w) A (call (.builtin "max") [.ref l] [("default", d)]) Q E s := by
  obtain ⟨xs, e⟩ :=
        hi.allInts.items
  have hn : numsOf (intItems xs).toList
        = ns := by rw [← e]; exact hi.numsOf
  rw [nums_intItems] at hn
  subst hn
  rw [e] at hl
  have name : (toString "max" ++ toString ".loop" : String) = "max.loop" := by decide
  have okA : argsOk "max" ⟨[.ref l], [("default", d)]⟩ := by unfold argsOk; kernel_rfl
  refine call_goes F.kind_max F.plain_max F.entry_max okA ?_
  show wpAny _ A.in1 (Builtin.Builtins.bindParams "max" ["key", "default"] 0 ⟨[], [("default", d)]⟩ >>= _) _ _ s
  refine wpAny_bind (wpAny_of_eq (show Builtin.Builtins.bindParams "max" ["key", "default"] 0 ⟨[], [("default", d)]⟩ = pure [none, some d] from rfl) ?_)
  refine wpAny_bind
        (wpAny_pure ?_)
  refine wpAny_bind (iter_intList hl fun s2 e st fp ne => ?_)
  subst e
  refine wpAny_bind
        (wpAny_newObj_type ?_)
  rw [name]
  have W := Walks.list (prog := prog) (w := w) (A := A.in1) (by exact hh) s.heap.objs.size l ne (intItems xs)
  refine wpAny_pure ⟨_, rfl, plainId_quiet F.plain_max_loop _, ?_⟩
  refine max_turns (d := d) W (CmpOf.ints_gt (numAt xs) fun _ _ => intItems_at) (fun z => Nat.lt_irrefl _ (fp _ z)) _ 0 _ none _ (by rw [Nat.zero_add]) (W.frame _ _ _ st fun b _ o e => Heap.get?_push_of_some _ e) rfl (Heap.get?_push_size _ rfl) fun v h' tk hv keep => ⟨v, rfl, ?_⟩
  refine h h' tk v (fun b o e => ?_) ?_
  · have lt := Heap.lt_size e
    refine keep b o (fun z => ?_) (fun z => ?_) (Heap.get?_push_of_some _ (Heap.get?_push_of_some _ e))
    · exact Nat.ne_of_lt lt (List.mem_singleton.mp z)
    · subst z
      rw [Heap.size_push] at lt
      exact Nat.lt_irrefl _ (Nat.lt_of_succ_lt lt)
  · rcases hv with ⟨n0, rfl⟩ | ⟨np, hv⟩
    · left
      refine ⟨?_, rfl⟩
      have z : xs.size = 0 := by simpa [intItems] using n0
      rw [Array.eq_empty_of_size_eq_zero z]
      rfl
    · right
      obtain ⟨t, rfl⟩
            := intItems_at hv
      have np' : 0 < xs.size := by simpa [intItems] using np
      have e : (intItems xs).size = xs.size := by simp [intItems]
      rw [e]
      obtain ⟨h1, h2⟩ := argBest_gt
            (numAt xs) (xs.size - 1)
      refine ⟨_, t, rfl, ?_, fun a ha => ?_⟩
      · rw [numAt_eq]
        exact PySem.getD_mem (by rw [List.length_map, Array.length_toList]; omega)
      · obtain ⟨j, hj,
            rfl⟩ := mem_getD ha
        rw [List.length_map,
              Array.length_toList] at hj
        rw [← numAt_eq]
        exact h2 j (by omega)
end
section
variable {X : Cx}
/-- max(xs, default=v) of a list of ints: the reading -/
def rMaxOr (K : PySem.W.Frag) : List V → List V → Hp → VK → Prop := fun vs zs H Q => ∃ (a : Addr) (ns : List Int) (i : Int), vs = [V.ref a] ∧ zs = [V.int i] ∧ SqL K H a (ns.map V.int) ∧ ∀ m : Int, (ns = [] ∧ m = i) ∨ (m ∈ ns ∧ ∀ y ∈ ns, y ≤ m) → Q (.int m) H
theorem cr_maxOr (hc : X.calm = true) : CallRK X (.builtin "max") ["default"] (rMaxOr X.K) := by
  intro pins s σ H vs zs us ws Q I r r2 h
  obtain ⟨a, ns, i, rfl, rfl, hs, q⟩ := h
  obtain ⟨its, rv,
        hl, _⟩ := I.list hs
  rw [Vals.ref1 r]
  obtain ⟨u, rfl, t, rfl⟩ := vals1 r2
  refine max_dflt (I.ok.hd hc) hl.isList rv.ints fun h' tk v keep hv => ?_
  rcases hv with ⟨e, rfl⟩ | ⟨M, t2, rfl, h1, h2⟩
  · exact ⟨.int i, H, I.kept keep, ⟨_, rfl⟩, q i (.inl ⟨e, rfl⟩)⟩
  · exact ⟨.int M, H, I.kept keep, ⟨_, rfl⟩, q M (.inr ⟨h1, h2⟩)⟩
/-- any of several readings -/
theorem pe_ex {ι : Sort _} {e : Expr} {t : ι → TE} (h : ∀ i, PE X e (t i)) : PE X e (fun σ H Q => ∃ i, t i σ H Q) :=
  ⟨fun pins s σ H Q I ⟨i, q⟩ => (h i).run pins s σ H Q I q⟩
end
end XT
end
section
set_option Elab.async false
set_option linter.all false
set_option maxRecDepth 100000
set_option maxHeartbeats 4100000
namespace XT
open PySem PySem.Spec PyProof.Rows L2
/-! ### sum of lists, from a list on -/
def lsO (xs : List Value) (c : Nat) : Obj := { cls := .type "list", data := .seq xs.toArray c }
def restOf (L : Nat → List Value) : Nat → Nat → List Value
  | _, 0 => []
  | i, k + 1 => L i ++ restOf L (i + 1) k
section
variable {prog : Program} {w : World} {A : Around} {R : Result → Shared → Prop} {I S : Addr} {fp wr : List Addr} {n : Nat} {P : Nat → Value → Prop} {St : Nat → Heap → Prop}
theorem sum_turns (W : Walks prog w A.in1 I fp wr n P St) (nS : S ∉ fp) (wS : ∀ b ∈ wr, b < S) (B : Nat → Addr) (L : Nat → List Value) (isB : ∀ i v, P i v → v = .ref (B i)) (nB : ∀ i, i < n → B i ∉ wr ∧ B i ≠ S) :
    ∀ (k i : Nat) (s : Shared) (t : Addr) (cur : List Value) (c c1 : Nat), n = i + k → St i s.heap → (∀ j, j < n → ∃ c, s.heap.get? (B j) = some (lsO (L j) c)) →
    s.heap.get? S = some (lsO [.ref t] c) → s.heap.get? t = some (lsO cur c1) → t ≠ S → t ∉ wr → cur.length + (restOf L i k).length ≤ sizeLine →
    (∀ h' tk t' c', h'.get? t' = some (lsO (cur ++ restOf L i k) c') → (S < t ∨ 0 < k → S < t') → (∀ x o, x ∉ wr → x ≠ S → s.heap.get? x = some o → h'.get? x = some o) → R (.ok (.ret (.ref t'))) { s with heap := h', toks := tk }) →
    codeAny (model prog w) A (.builtin "sum.loop" ⟨[.ref I, .ref S, rawInt 2, rawInt 0], []⟩) R s := by
  have nW : S ∉ wr := fun h => nS (W.sub _ h)
  intro k
  induction k with
  | zero =>
    intro i s t cur c c1 e st ls hS ht tS tw fit q
    obtain rfl : n = i := e
    refine codeAny_builtin
          F.entry_sum_loop ?_
    rw [Around.under_plainId
          F.plain_sum_loop _]
    show wpAny _ _ (seqItems? (.ref S) >>= _) _ _ s
    refine wpAny_bind
          (wpAny_seqItems hS rfl ?_)
    show wpAny _ _ (tryCatch (pyNext (.ref I)) _ >>= _) _ _ s
    refine wpAny_bind (wpAny_tryCatch (W.done s _ _ st fun h' tk keep => ?_))
    exact wpAny_pure (q h' tk t c1 (by show _ = some (lsO (cur ++ []) _); rw [List.append_nil]; exact keep t _ tw ht) (fun z => z.elim id fun y => absurd y (Nat.lt_irrefl 0)) fun x o h1 _ h3 => keep x o h1 h3)
  | succ k ih =>
    intro i s t cur c c1 e st ls hS ht tS tw fit q
    have lt : i < n := by omega
    have eR : restOf L i (k + 1) = L i ++ restOf L (i + 1) k := rfl
    rw [eR, List.length_append] at fit
    refine codeAny_builtin
          F.entry_sum_loop ?_
    rw [Around.under_plainId
          F.plain_sum_loop _]
    show wpAny _ _ (seqItems? (.ref S) >>= _) _ _ s
    refine wpAny_bind
          (wpAny_seqItems hS rfl ?_)
    show wpAny _ _ (tryCatch (pyNext (.ref I)) _ >>= _) _ _ s
    refine wpAny_bind (wpAny_tryCatch (W.item i s _ _ lt st fun v h' tk hv st2 keep => ?_))
    obtain rfl := isB i v hv
    obtain ⟨nb1, nb2⟩ := nB i lt
    obtain ⟨cb, hb⟩ := ls i lt
    have hS2 := keep S _ nW hS
    have ht2 := keep t _ tw ht
    have hb2 := keep _ _ nb1 hb
    show wpAny _ _ (Sem.attempt (holding [.ref (B i)] (binaryOp .Add (.ref t) (.ref (B i)))) >>= _) _ _ _
    refine wpAny_bind (wpAny_attempt (wpAny_holding (PySem.P.add_list ht2 hb2 ?_ (by simp only [List.size_toArray]; omega))))
    have eA : cur.toArray ++ (L i).toArray = (cur ++ L i).toArray := by simp
    rw [eA]
    have big : ∀ x o, h'.get? x = some o → (h'.push (lsO (cur ++ L i) 0)).get? x = some o := fun x o e => Heap.get?_push_of_some _ e
    have lS : S < h'.objs.size := Heap.lt_size hS2
    have hS3 := big S _ hS2
    show wpAny _ _ (updateSeq S (fun _ => #[.ref h'.objs.size]) >>= _) _ _ _
    refine wpAny_bind (wpAny_updateSeq hS3 rfl (wpAny_bind (wpAny_letGo ?_)))
    have hS4 := Heap.get?_update_self (Obj.mapSeq fun _ => #[Value.ref h'.objs.size]) hS3 rfl
    show wpAny _ _ (updateSeq S (fun _ => #[.ref h'.objs.size]) >>= _) _ _ _
    refine wpAny_bind (wpAny_updateSeq hS4 rfl ?_)
    have hS5 := Heap.get?_update_self (Obj.mapSeq fun _ => #[Value.ref h'.objs.size]) hS4 rfl
    have far : ∀ x o, x ≠ S → h'.get? x = some o → (((h'.push (lsO (cur ++ L i) 0)).update S (Obj.mapSeq fun _ => #[Value.ref h'.objs.size])).update S (Obj.mapSeq fun _ => #[Value.ref h'.objs.size])).get? x = some o :=
      fun x o h1 h2 => (Heap.get?_update_other _ _ h1.symm).trans ((Heap.get?_update_other _ _ h1.symm).trans (big x o h2))
    have nn : h'.objs.size ≠ S := (Nat.ne_of_lt lS).symm
    have hn : (((h'.push (lsO (cur ++ L i) 0)).update S (Obj.mapSeq fun _ => #[Value.ref h'.objs.size])).update S (Obj.mapSeq fun _ => #[Value.ref h'.objs.size])).get? h'.objs.size = some (lsO (cur ++ L i) 0) :=
      (Heap.get?_update_other _ _ nn.symm).trans ((Heap.get?_update_other _ _ nn.symm).trans (Heap.get?_push_size _ rfl))
    refine wpAny_pure ⟨plainId_quiet F.plain_sum_loop _, ?_⟩
    refine ih (i + 1) { s with heap := ((h'.push (lsO (cur ++ L i) 0)).update S (Obj.mapSeq fun _ => #[Value.ref h'.objs.size])).update S (Obj.mapSeq fun _ => #[Value.ref h'.objs.size]), toks := tk } h'.objs.size (cur ++ L i) _ 0 (by omega) (W.frame _ _ _ st2 fun y hy o ey => far y o (fun z => nS (z ▸ hy)) ey) (fun j hj => ?_) hS5 hn nn ?_ (by rw [List.length_append]; omega) fun h2 t2 u c2 e1 e2 e3 => ?_
    · obtain ⟨cj, hj2⟩ := ls j hj
      obtain ⟨m1, m2⟩ := nB j hj
      exact ⟨cj, far _ _ m2 (keep _ _ m1 hj2)⟩
    · exact fun z => Nat.lt_irrefl _ (Nat.lt_trans lS (wS _ z))
    · refine q h2 t2 u c2 ?_ (fun _ => e2 (.inl lS)) fun x o h1 h3 h4 => e3 x o h1 h3 (far x o h3 (keep x o h1 h4))
      rw [eR, ← List.append_assoc]
      exact e1
end
section
variable {prog : Program} {w : World} {A : Around} {E : Value → Shared → Prop} {s : Shared} {l b : Addr} {items : Array Value} {Q : Value → Shared → Prop} {cur : List Value} {cb : Nat}
theorem sum_lists (hh : A.handled = none) (hl : s.heap.IsList l items) (B : Nat → Addr) (L : Nat → List Value) (hB : ∀ i, i < items.size → items[i]? = some (.ref (B i))) (hL : ∀ i, i < items.size → ∃ c, s.heap.get? (B i) = some (lsO (L i) c))
    (hb : s.heap.get? b = some (lsO cur cb)) (np : 0 < items.size) (fit : cur.length + (restOf L 0 items.size).length ≤ sizeLine)
    (h : ∀ h' tk t' c', h'.get? t' = some (lsO (cur ++ restOf L 0 items.size) c') → s.heap.objs.size ≤ t' → (∀ x o, s.heap.get? x = some o → h'.get? x = some o) → Q (.ref t') { s with heap := h', toks := tk }) :
    wpAny (model prog w) A (call (.builtin "sum") [.ref l, .ref b] []) Q E s := by
  have okA : argsOk "sum" ⟨[.ref l, .ref b], []⟩ := by unfold argsOk; kernel_rfl
  have ll := Heap.lt_size hl.choose_spec.1
  have lb := Heap.lt_size hb
  refine call_goes F.kind_sum F.plain_sum F.entry_sum okA ?_
  unfold Builtin.«sum»
  simp only [List.length_cons,
        List.length_nil]
  rw [if_neg (by decide)]
  refine wpAny_bind (wpAny_of_eq (show Builtin.Builtins.bindParams "sum" ["start"] 0 { pos := [Value.ref b] } = pure [some (.ref b)] from rfl) ?_)
  refine wpAny_bind
        (wpAny_pyIter_list hl ?_)
  refine wpAny_bind
        (wpAny_pure ?_)
  have hb2 : (s.heap.push { cls := .type "list_iterator", data := .fields #[.ref l, .int 0 0] }).get? b = some (lsO cur cb) := Heap.get?_push_of_some _ hb
  have ty : Shared.TypeIs { s with heap := s.heap.push { cls := .type "list_iterator", data := .fields #[.ref l, .int 0 0] } } (.ref b) "list" := ⟨_, hb2, rfl⟩
  simp only [List.forIn_cons,
        List.forIn_nil]
  refine wpAny_bind (wpAny_bind (wpAny_bind (wpAny_isInstance (T := "list") (b := false) ty PySem.F.sub_list_str ?_)))
  simp only [Bool.false_eq_true,
        if_false]
  refine wpAny_pure (wpAny_bind (wpAny_bind (wpAny_isInstance (T := "list") (b := false) ty PySem.F.sub_list_bytes ?_)))
  simp only [Bool.false_eq_true,
        if_false]
  refine wpAny_pure (wpAny_bind (wpAny_bind (wpAny_isInstance (T := "list") (b := false) ty PySem.F.sub_list_bytearray ?_)))
  simp only [Bool.false_eq_true,
        if_false]
  refine wpAny_pure
        (wpAny_pure ?_)
  refine wpAny_bind
        (wpAny_newObj_type ?_)
  have eS : (s.heap.push { cls := .type "list_iterator", data := .fields #[.ref l, .int 0 0] }).objs.size = s.heap.objs.size + 1 := Heap.size_push _ _
  have old : ∀ x o, s.heap.get? x = some o → ((s.heap.push { cls := .type "list_iterator", data := .fields #[.ref l, .int 0 0] }).push { cls := .type "list", data := .seq #[.ref b] }).get? x = some o := fun x o e => Heap.get?_push_of_some _ (Heap.get?_push_of_some _ e)
  have W := Walks.list (prog := prog) (w := w) (A := A.in1) (by exact hh) s.heap.objs.size l (Nat.ne_of_lt ll) items
  rw [eS]
  refine wpAny_pure ⟨_, rfl, plainId_quiet F.plain_sum_loop _, ?_⟩
  refine sum_turns W (S := s.heap.objs.size + 1) (fun z => ?_) (fun x z => ?_) B L (fun i v hv => ?_) (fun i hi => ?_) items.size 0 { s with heap := (s.heap.push { cls := .type "list_iterator", data := .fields #[.ref l, .int 0 0] }).push { cls := .type "list", data := .seq #[.ref b] } } b cur 0 cb (by rw [Nat.zero_add]) ⟨?_, hl.at fun o e => old _ _ e⟩ (fun j hj => ?_) ?_ (old _ _ hb) ?_ ?_ fit fun h' tk t' c' e1 e2 e3 => ⟨_, rfl, ?_⟩
  · rcases List.mem_cons.mp z with e | e
    · exact Nat.succ_ne_self _ e
    · have e2 := List.mem_singleton.mp e
      rw [← e2] at ll
      exact Nat.lt_irrefl _ (Nat.lt_of_succ_lt ll)
  · rw [List.mem_singleton.mp
        z]
    exact Nat.lt_succ_self _
  · have z : i < items.size := (Array.getElem?_eq_some_iff.mp hv).1
    exact Option.some.inj (hv.symm.trans (hB i z))
  · obtain ⟨c, e⟩ := hL i hi
    have z := Heap.lt_size e
    exact ⟨fun y => Nat.ne_of_lt z (List.mem_singleton.mp y), Nat.ne_of_lt (Nat.lt_succ_of_lt z)⟩
  · exact ⟨_, Heap.get?_push_of_some _ (Heap.get?_push_size _ rfl), rfl, rfl⟩
  · obtain ⟨c, e⟩ := hL j hj
    exact ⟨c, old _ _ e⟩
  · rw [← eS]
    exact
          Heap.get?_push_size _ rfl
  · exact Nat.ne_of_lt (Nat.lt_succ_of_lt lb)
  · exact fun y => Nat.ne_of_lt lb (List.mem_singleton.mp y)
  · refine h h' tk t' c' e1 (Nat.le_of_lt (Nat.lt_trans (Nat.lt_succ_self _) (e2 (.inr np)))) fun x o e => ?_
    have z := Heap.lt_size e
    exact e3 x o (fun y => Nat.ne_of_lt z (List.mem_singleton.mp y)) (Nat.ne_of_lt (Nat.lt_succ_of_lt z)) (old x o e)
end
theorem rest_vals {L : Nat → List Value} : ∀ (ps : List (Addr × List V)) (i : Nat), (∀ j p, ps[j]? = some p → Vals p.2 (L (i + j))) → Vals (ps.map (·.2)).flatten (restOf L i ps.length)
  | [], _, _ => .nil
  | p :: r, i, h => by
    show Vals (p.2 ++ (r.map (·.2)).flatten) (L i ++ restOf L (i + 1) r.length)
    refine Vals.append (h 0 p rfl) (rest_vals r (i + 1) fun j q e => ?_)
    have z := h (j + 1) q (by rw [List.getElem?_cons_succ]; exact e)
    rw [Nat.add_assoc, Nat.add_comm 1 j]
    exact z
section
variable {X : Cx}
/-- sum(lists, list): one list or more, each on its own -/
def rSumL : List V → Hp → VK → Prop := fun vs H Q => ∃ (a b : Addr) (ps : List (Addr × List V)) (zs : List V), vs = [V.ref a, V.ref b] ∧ H a = some (.lst (ps.map fun p => .ref p.1)) ∧ H b = some (.lst zs) ∧ 0 < ps.length ∧ (∀ p ∈ ps, H p.1 = some (.lst p.2)) ∧
  zs.length + ((ps.map (·.2)).flatten).length ≤ sizeLine ∧ ∀ p, H p = none → Q (.ref p) (upd H p (.lst (zs ++ (ps.map (·.2)).flatten)))
theorem cr_sumL (hc : X.calm = true) : CallR X (.builtin "sum") rSumL := by
  intro pins s σ
        H vs us Q I r h
  obtain ⟨a, b, ps, zs, rfl, ha, hb, np, hp, fit, q⟩ := h
  obtain ⟨u, us2, rfl, ru, r2⟩ : ∃ u us2, us = u :: us2 ∧ RelV (V.ref a) u ∧ Vals [V.ref b] us2 := by
    cases r with
    | cons x y => exact
          ⟨_, _, rfl, x, y⟩
  rw [Vals.ref1 r2]
  obtain rfl : u =
        Value.ref a := ru
  obtain ⟨_, ia, na, va, la, ea⟩ := I.lstM ha
  obtain ⟨_, ib, nb, vb, lb, eb⟩ := I.lstM hb
  have lps : ps.length = ia.length := by rw [← la, List.length_map]
  have ex : ∀ i, i < ps.length → ∃ (xs : List Value) (c : Nat) (p : Addr × List V), ps[i]? = some p ∧ Vals p.2 xs ∧ s.heap.get? p.1 = some (lsO xs c) := fun i hi => by
    obtain ⟨_, xs, c, v, _, e⟩ := I.lstM (hp ps[i] (List.getElem_mem hi))
    exact ⟨xs, c, ps[i], List.getElem?_eq_getElem hi, v, e⟩
  have sz : ia.toArray.size = ps.length := by rw [List.size_toArray, lps]
  have rv : Vals (ps.map (·.2)).flatten (restOf (fun i => if h : i < ps.length then (ex i h).choose else []) 0 ps.length) := by
    refine rest_vals ps 0 fun j p e => ?_
    have hj : j < ps.length := (List.getElem?_eq_some_iff.mp e).1
    rw [Nat.zero_add, dif_pos hj]
    obtain ⟨c, p2, e2, v2, _⟩ := (ex j hj).choose_spec
    obtain rfl : p2 = p := Option.some.inj (e2.symm.trans e)
    exact v2
  refine sum_lists (items := ia.toArray) (cur := ib) (cb := nb) (I.ok.hd hc) ⟨_, ea, rfl, _, rfl⟩ (fun i => if h : i < ps.length then ps[i].1 else 0) (fun i => if h : i < ps.length then (ex i h).choose else []) (fun i hi => ?_) (fun i hi => ?_) eb (by rw [sz]; exact np) ?_ fun h' tk t' c' e1 e2 e3 => ?_
  · rw [sz] at hi
    rw [dif_pos hi]
    have ev : (ps.map fun p => V.ref p.1)[i]? = some (V.ref ps[i].1) := by
      rw [List.getElem?_map, List.getElem?_eq_getElem hi]
      rfl
    obtain ⟨u, h1, h2⟩ := Vals.get va ev
    obtain rfl : u = Value.ref ps[i].1 := h2
    simpa using h1
  · rw [sz] at hi
    rw [dif_pos hi, dif_pos hi]
    obtain ⟨c, p2, e2, _, e3⟩ := (ex i hi).choose_spec
    obtain rfl : p2 = ps[i] := Option.some.inj (e2.symm.trans (List.getElem?_eq_getElem hi))
    exact ⟨c, e3⟩
  · rw [sz, ← rv.length, ← vb.length]
    exact fit
  · rw [sz] at e1
    have vv := vb.append rv
    exact ⟨.ref t', _, I.laid (t' := tk) (o := .lst (zs ++ (ps.map (·.2)).flatten)) e3 e2 ⟨by rw [List.length_append]; exact fit, _, c', vv, e1⟩, rfl, q t' (I.hok.fresh e2)⟩
end
end XT
end
section
set_option Elab.async false
set_option linter.all false
set_option maxRecDepth 100000
set_option maxHeartbeats 4100000
namespace XT
open PySem PySem.Spec PyProof.Rows L2 XS
/-! ### how many unlike signs a text has: len(set(text)) -/
/-- the texts of one sign that stand among the first i signs -/
def among (cs : List Nat) (i : Nat) : Str → Bool := fun z => (cs.take i).any fun c => sg c == z
theorem among_iff {cs : List Nat} {i c : Nat} : among cs i (sg c) = true ↔ c ∈ cs.take i := by
  unfold among
  rw [List.any_eq_true]
  refine ⟨fun ⟨d, h1, h2⟩ => ?_, fun h => ⟨c, h, by simp⟩⟩
  rw [beq_iff_eq] at h2
  exact sg_inj h2 ▸ h1
theorem among_succ {cs : List Nat} {i c : Nat} (h : cs[i]? = some c) (z : Str) : (among cs i z || decide (z = sg c)) = among cs (i + 1) z := by
  unfold among
  rw [List.take_succ, h]
  simp only [Option.toList, List.any_append, List.any_cons, List.any_nil, Bool.or_false]
  congr 1
  by_cases e : z = sg c
  · subst e
    simp
  · rw [decide_eq_false e]
    symm
    rw [beq_eq_false_iff_ne]
    exact fun y => e y.symm
section
variable {prog : Program} {w : World} {A : Around} {R : Result → Shared → Prop} {I S : Addr} {fp wr : List Addr} {St : Nat → Heap → Prop} {x : Str}
theorem set_turns (W : Walks prog w A.in1 I fp wr x.cps.size (SignAt x) St) (nS : S ∉ fp) (small : x.length < 4000) :
    ∀ (k i m : Nat) (s : Shared), x.cps.size = i + k → St i s.heap → s.heap.SetOf (PySem.strKind prog w) S (among (cod x) i) m → m ≤ i → (m = i ↔ ((cod x).take i).Nodup) →
      (∀ h' tk m', h'.SetOf (PySem.strKind prog w) S (among (cod x) x.cps.size) m' → m' ≤ x.cps.size → (m' = x.cps.size ↔ (cod x).Nodup) → (∀ y o, y ∉ wr → y ≠ S → s.heap.get? y = some o → h'.get? y = some o) → R (.ok (.ret .none)) { s with heap := h', toks := tk }) →
      codeAny (model prog w) A (.builtin
            "set.update.loop" ⟨[.ref S, .ref I], []⟩) R s := by
  have nW : S ∉ wr := fun h => nS (W.sub _ h)
  intro k
  induction k with
  | zero =>
    intro i m s e st hS le iff q
    obtain rfl : x.cps.size = i := e
    refine codeAny_builtin
          PyProof.Rows.F.entry_set_update_loop ?_
    rw [Around.under_plainId
          PyProof.Rows.F.plain_set_update_loop _]
    show wpAny _ _ (pyNext (.ref I) >>= _) _ _ s
    refine wpAny_bind (W.done s _ _ st fun h' tk keep => ?_)
    show wpAny _ _ (ret
          Value.none) _ _ _
    refine wpAny_pure (q h' tk m ?_ le ?_ fun y o h1 _ h3 => keep y o h1 h3)
    · obtain ⟨o, es, ep, t, ho, rest⟩ := hS
      exact ⟨o, es, ep, t, keep S _ nW ho, rest⟩
    · rw [iff, List.take_of_length_le (by rw [len_cod]; exact Nat.le_refl _)]
  | succ k ih =>
    intro i m s e st hS le iff q
    have lt : i < x.cps.size := by omega
    have lx : x.length = x.cps.size := rfl
    refine codeAny_builtin
          PyProof.Rows.F.entry_set_update_loop ?_
    rw [Around.under_plainId
          PyProof.Rows.F.plain_set_update_loop _]
    show wpAny _ _ (pyNext (.ref I) >>= _) _ _ s
    refine wpAny_bind (W.item i s _ _ lt st fun v h' tk hv st2 keep => ?_)
    obtain ⟨c, u, hc, rfl⟩ := hv
    have hc2 : (cod x)[i]? = some c := by
      show x.cps.toList[i]? = some c
      rw [Array.getElem?_toList]
      exact hc
    have hS2 : h'.SetOf (PySem.strKind prog w) S (among (cod x) i) m := by
      obtain ⟨o, es, ep,
            t, ho, rest⟩ := hS
      exact ⟨o, es, ep, t, keep S _ nW ho, rest⟩
    show wpAny _ _ (holding [Value.str (sg c) u] (setAdd S (.str (sg c) u)) >>= _) _ _ _
    refine wpAny_bind
          (wpAny_holding ?_)
    unfold setAdd
    refine wpAny_holding ?_
    refine wpAny_bind ((PySem.strKind prog w).pyHash (k := sg c) (strKind_is _ _ _ _) ?_)
    refine wpAny_setAddHashed_of (knd := PySem.strKind prog w) (s := { s with heap := h', toks := tk + 1 }) (strKind_is _ _ _ _) rfl hS2 (by unfold scanBound; omega) fun h2 sb hS3 => ?_
    have step : h2.SetOf (PySem.strKind prog w) S (among (cod x) (i + 1)) (if among (cod x) i (sg c) then m else m + 1) := SetOf_congr hS3 (fun z => among_succ hc2 z) rfl
    have tk1 : (cod x).take (i + 1) = (cod x).take i ++ [c] := by rw [List.take_succ, hc2]; rfl
    refine wpAny_pure ⟨plainId_quiet PyProof.Rows.F.plain_set_update_loop _, ih (i + 1) _ _ (by omega) (W.frame _ _ _ st2 fun y hy o ey => ?_) step ?_ ?_ fun h3 t3 m3 e1 e2 e3 e4 => ?_⟩
    · exact (sb.2 y fun h : y = S => nS (h ▸ hy)).trans ey
    · split <;> omega
    · rw [tk1, List.nodup_append]
      cases ha : among (cod x) i (sg c) with
      | true =>
        have mem := among_iff.mp ha
        rw [if_pos rfl]
        refine ⟨fun z => by omega, fun z => absurd rfl (z.2.2 c mem c (by simp))⟩
      | false =>
        have mem : ¬ c ∈ (cod x).take i := fun z => by rw [among_iff.mpr z] at ha; cases ha
        rw [if_neg (by decide)]
        refine ⟨fun z => ⟨iff.mp (by omega), by simp, fun y hy z2 hz => ?_⟩, fun z => by rw [iff.mpr z.1]⟩
        rw [List.mem_singleton] at hz
        subst hz
        exact fun z3 => mem (z3 ▸ hy)
    · exact q h3 t3 m3 e1 e2 e3 fun y o h1 h3 h4 => e4 y o h1 h3 ((sb.2 y h3).trans (keep y o h1 h4))
end
section
variable {prog : Program} {w : World} {A : Around} {E : Value → Shared → Prop} {s : Shared} {x : Str} {u : Tok} {Q : Value → Shared → Prop}
theorem set_text (hh : A.handled = none) (small : x.length < 4000)
    (h : ∀ (h' : Heap) (tk m : Nat), h'.SetOf (PySem.strKind prog w) s.heap.objs.size (among (cod x) x.cps.size) m → m ≤ x.cps.size → (m = x.cps.size ↔ (cod x).Nodup) → (∀ b o, s.heap.get? b = some o → h'.get? b = some o) → Q (.ref s.heap.objs.size) { s with heap := h', toks := tk }) :
    wpAny (model prog w) A (call (.type "set") [.str x u]) Q E s := by
  obtain ⟨c, tl, order⟩ := PySem.F.called_set.mro
  have made := PySem.F.called_set.made
  have below := PySem.F.called_set.sub
  refine wpAny_call
        (codeAny_of_tree ?_)
  show wpAny _ _ (callAny
        (.type "set") _) _ _ _
  refine wpAny_pure ⟨Code.quiet_builtin _ (by
        decide +kernel), codeAny_builtin PySem.F.entry_type_call ?_⟩
  rw [Around.under_plain (weight_type_call_type "set" [.str x u] []) rfl]
  have no1 := PySem.F.called_set.notType
  have can := PySem.F.called_set.canCreate
  have ct := PySem.F.typeCall_set_1 (.str x u)
  repeat (any_goals (first
        | assumption | wp_step))
  refine codeAny_mono (code_set_new_1 (.str x u) (E := E) (Q₁ := fun obj s₁ => ∃ led : Bool, obj = .ref s.heap.objs.size ∧ s₁ = { s with heap := s.heap.push { cls := .type "set", dict := none, data := .set #[] 0 (.fresh 0 0 led) } }) fun led => ⟨led, rfl, rfl⟩) fun r s₁ hr => ?_
  cases r with
  | error e => exact hr
  | ok fl =>
    cases fl with
    | ret obj =>
      obtain ⟨led, rfl, rfl⟩ := hr
      have hS : (s.heap.push { cls := .type "set", dict := none, data := .set #[] 0 (.fresh 0 0 led) }).get? s.heap.objs.size
            = some { cls := .type "set", dict := none, data := .set #[] 0 (.fresh 0 0 led) } := Heap.get?_push_size _ rfl
      have hT : Shared.TypeIs { s with heap := (s.heap.push { cls := .type "set", dict := none, data := .set #[] 0 (.fresh 0 0 led) }) } (.ref s.heap.objs.size) "set" := ⟨_, hS, rfl⟩
      have lookI := PySem.F.called_set.init.lookup
      have bindI := PySem.F.called_set.init.bind (.ref s.heap.objs.size)
      repeat (any_goals (first
            | assumption | wp_step))
      refine codeAny_mono (codeAny_call_builtin (R := wants (fun r s₂ => r = .none ∧ ∃ h' tk m, s₂ = { s with heap := h', toks := tk } ∧ h'.SetOf (PySem.strKind prog w) s.heap.objs.size (among (cod x) x.cps.size) m ∧ m ≤ x.cps.size ∧ (m = x.cps.size ↔ (cod x).Nodup) ∧
          (∀ b o, s.heap.get? b = some o → h'.get? b = some o)) E) PySem.F.called_set.init.plain PySem.F.entry_set_init (check_set_init_1 hT ?_)) fun r₂ s₂ hr₂ => ?_
      · have n1 := PySem.F.sub_str_set
        have n2 := PySem.F.sub_str_frozenset
        have n3 : (Value.type "str" == Value.type "dict") = false := by decide
        unfold Builtin.«set.__init__»
              noKeywords Builtin.Frozenset.updateFrom
        generalize hPI : pyIter = PI
        wp_walk
        subst hPI
        refine wpAny_pyIter_str fun o St W st => ?_
        refine wpAny_bind
              (wpAny_runValue ?_)
        have eS : (s.heap.push { cls := .type "set", dict := none, data := .set #[] 0 (.fresh 0 0 led) }).objs.size = s.heap.objs.size + 1 := Heap.size_push _ _
        have get : ((s.heap.push { cls := .type "set", dict := none, data := .set #[] 0 (.fresh 0 0 led) }).push o).get? s.heap.objs.size = some { cls := .type "set", dict := none, data := .set #[] 0 (.fresh 0 0 led) } := Heap.get?_push_of_some _ hS
        have start : ((s.heap.push { cls := .type "set", dict := none, data := .set #[] 0 (.fresh 0 0 led) }).push o).SetOf (PySem.strKind prog w) s.heap.objs.size (among (cod x) 0) 0 := SetOf_congr ((PyProof.Rows.setObjOf_fresh (knd := PySem.strKind prog w) led).setOf get (by unfold scanBound; omega)) (fun _ => rfl) rfl
        refine set_turns (W _ (by simp [hh])) (fun z => ?_) small x.cps.size 0 0 _ (by rw [Nat.zero_add]) st start (Nat.le_refl _) ⟨fun _ => by simp, fun _ => rfl⟩ fun h' tk m e1 e2 e3 e4 => ?_
        · have e := List.mem_singleton.mp z
          rw [eS] at e
          exact Nat.succ_ne_self _ e.symm
        · show wpAny _ _ _ _ _ _
          refine wpAny_pure ?_
          show wpAny _ _ (ret
                Value.none) _ _ _
          refine wpAny_pure ⟨rfl, h', tk, m, rfl, e1, e2, e3, fun b o2 e => ?_⟩
          have lt := Heap.lt_size e
          refine e4 b o2 (fun z => ?_) (Nat.ne_of_lt lt) (Heap.get?_push_of_some _ (Heap.get?_push_of_some _ e))
          have e5 := List.mem_singleton.mp z
          rw [eS] at e5
          rw [e5] at lt
          exact Nat.lt_irrefl _ (Nat.lt_of_succ_lt lt)
      · cases r₂ with
        | error e => exact hr₂
        | ok fl₂ =>
          cases fl₂ with
          | ret r =>
            obtain ⟨rfl, h', tk, m, rfl, e1, e2, e3, e4⟩ := hr₂
            repeat (any_goals (first
                  | assumption | wp_step))
            exact h _ _ _ e1 e2 e3 e4
          | _ => exact hr₂.elim
    | _ => exact hr.elim
end
section
variable {X : Cx}
/-- len(set(text)): as many as the text has signs exactly if no sign stands twice -/
def tLenSetX (ta : TE) : TE := fun σ H Q => ta σ H fun v H1 => ∃ z : Str, v = .str z ∧ z.length < 4000 ∧ ∀ m : Nat, (m = z.length ↔ (cod z).Nodup) → Q (.int (m : Int)) H1
theorem pe_lenSetX {a : Expr} {ta : TE} {p p2 q pos : Pos} (hc : X.calm = true) (hg : Gl X "len") (hm : X.mg "len" = none) (hg2 : Gl X "set") (hm2 : X.mg "set" = none) (ha : PE X a ta)
    (na : starEach [a] X.env = (false, eval a X.env) :: starEach [] X.env := by rfl) : PE X (.Call (.Name "len" p) [.Call (.Name "set" p2) [a] [] q] [] pos) (tLenSetX ta) := by
  refine ⟨fun pins s σ H Q I h => ?_⟩
  refine Call_ (ld_blt
        I hg hm boot_len ?_)
  refine PyProof.Rows.callWith_builtin1
        (PyProof.Rows.args_cons ?_ rfl) rfl rfl
  refine Call_ (ld_blt
        I hg2 hm2 boot_set ?_)
  refine PyProof.Rows.callWith_type1 (PyProof.Rows.args_cons (thn (ha.run pins s σ H _ I h) fun v s1 ⟨x, H1, I1, r1, z, e, small, q1⟩ => PyProof.Rows.args_nil ?_) na) na rfl
  subst e
  obtain ⟨t, rfl⟩ := r1
  refine set_text (I1.ok.hd hc) small fun h' tk m hS le iff keep => ?_
  refine
        PyProof.Rows.args_nil ?_
  obtain ⟨o, es, ep, t2, ho, hex, hd, _, _, _, hf, hn⟩ := hS
  have I2 : Inv X pins σ H1 { s1 with heap := h', toks := tk } := I1.kept keep
  have lz : z.length = z.cps.size := rfl
  refine call_len_set ho hex hd hf (by rw [hn]; omega) ⟨.int m, H1, I2.tok _, ⟨_, by rw [hn]⟩, q1 m iff⟩
end
end XT
end
section
set_option Elab.async false
set_option linter.all false
set_option maxRecDepth 100000
set_option maxHeartbeats 4100000
namespace LA
open PySem L2 XS XT
abbrev sLetter : Stmt := top 12
abbrev sLine : Stmt := top 13
/-- a branch that is never gone -/
theorem pss_never {X : Cx} {ss : List Stmt} : PSs X ss (fun _ _ _ => False) := ⟨fun _ _ _ _ _ _ h => h.elim⟩
/-- what the program's modules give -/
structure PkT (mg : Str → Option Value) (t1 t2 t3 : Tok) : Prop where
  len : mg "len" = none
  set : mg "set" = none
  all : mg "all" = none
  ord : mg "ord" = none
  isM : mg "isinstance" = none
  str : mg "str" = none
  first : mg "FIRST_LETTER" = some (.int 32 t1)
  last : mg "LAST_LETTER" = some (.int 126 t2)
  per : mg "PERCENT_SIGN" = some (.int 37 t3)
def lineB (z : Str) : Bool := (cod z).all fun c => decide (Lt c)
section
variable {P : Program} {w : World} {K : PySem.W.Frag} {mg : Str → Option Value} {base : Heap} {t1 t2 t3 : Tok}
structure CallOf (P : Program) (w : World) (K : PySem.W.Frag) (mg : Str → Option Value) (base : Heap) (k : Nat) (x : Str) (ps : List Str) (sp : Sp) (f : Addr) (fd : FuncData) : Prop where
  ok : FnOk P w K mg base CX0 k f fd ps sp
  m : mg x = some (.ref f)
  k : PySem.W.keepIn K (.ref f) = true
  b : Binds K fd ps []
/-- is_letter of a text of one sign -/
def spLetter : Sp := fun vs H Q _ => ∃ c, vs = [.str (sg c)] ∧ Q (.bl (decide (Lt c))) H
theorem scLe : FnScope ["character", "code"] ["character"] (defScope sLetter) := ⟨rfl, rfl, rfl, by decide +kernel, rfl, by decide +kernel, by decide +kernel⟩
theorem ok_letter {f : Addr} {fd : FuncData} (F : Fun K "is_letter" "is_letter" sLetter f fd) (T : PkT mg t1 t2 t3) : FnOk P w K mg base CX0 1 f fd ["character"] spLetter := by
  refine F.ok scLe (fun vs H Q E h => ?_) (fun cdv A outer s H vs Q E hr h => ?_)
  · obtain ⟨c, rfl, _⟩ := h
    rfl
  · obtain ⟨c, rfl, q⟩ := h
    refine ⟨_, pss_cons (by exact (ps_set (i := 1) scLe.nd rfl (.inl rfl) (pe_callB call_ord (by rfl) T.ord (by decide +kernel) (pa_cons (pv 0) pa_nil)))) (
      pss_one (by exact (ps_ret (pe_and (pe_chain op_le op_le (pe_glob (v := .int 32) rfl T.first ⟨_, rfl⟩) (pv 1) (pe_glob (v := .int 126) rfl T.last ⟨_, rfl⟩)) (pe_one (pe_cmpR op_ne (pv 1) (pe_glob (v := .int 37) rfl T.per ⟨_, rfl⟩) (nomark _))))))), ?_⟩
    refine ⟨_, rfl, _, rfl, rfl, ?_⟩
    have e0 : (((sg c).cps.getD 0 0 : Nat) : Int) = (c : Int) := rfl
    rw [e0]
    refine ⟨_, rfl, _, _, rfl, rfl, _, rfl, ?_⟩
    by_cases h1 : (32 : Int) ≤ (c : Int)
    · rw [decide_eq_true h1]
      refine iteT ?_
      refine ⟨_, _, rfl, rfl, _, rfl, ?_⟩
      by_cases h2 : (c : Int) ≤ 126
      · rw [decide_eq_true h2]
        refine iteT ?_
        refine ⟨_, rfl, rfl, ?_⟩
        have e : (!decide (V.int (c : Int) = V.int 37)) = decide (Lt c) := by
          by_cases h3 : c = 37
          · subst h3
            decide
          · rw [decide_eq_false (fun z => h3 (by injection z; omega))]
            exact (decide_eq_true ⟨by omega, by omega, h3⟩).symm
        rw [e]
        exact q
      · rw [decide_eq_false h2]
        refine iteF ?_
        have e : decide (Lt c) = false := decide_eq_false (fun z => h2 (by have := z.2.1; omega))
        rw [e] at q
        exact q
    · rw [decide_eq_false h1]
      refine iteF ?_
      refine ⟨_, rfl, ?_⟩
      refine iteF ?_
      have e : decide (Lt c) = false := decide_eq_false (fun z => h1 (by have := z.1; omega))
      rw [e] at q
      exact q
/-- is_line of any value -/
def spLine (K : PySem.W.Frag) : Sp := fun vs H Q _ => ∃ x, vs = [x] ∧ ((∃ z : Str, x = .str z ∧ z.length < 1000000 ∧ ∀ H', Same H H' → Q (.bl (lineB z)) H') ∨
  ((∀ z, x ≠ .str z) ∧ (∃ t, TyX K H x t ∧ PySem.W.kitOne K t (.type "str") = some false) ∧ Q (.bl false) H))
theorem scLi : FnScope ["value", "character"] ["value"] (defScope sLine) := ⟨rfl, rfl, rfl, by decide +kernel, rfl, by decide +kernel, by decide +kernel⟩
theorem ok_line {f f1 : Addr} {fd fd1 : FuncData} (F : Fun K "is_line" "is_line" sLine f fd) (T : PkT mg t1 t2 t3) (M : CallOf P w K mg base 1 "is_letter" ["character"] spLetter f1 fd1) : FnOk P w K mg base CX0 2 f fd ["value"] (spLine K) := by
  refine F.ok scLi (fun vs H Q E h => ?_) (fun cdv A outer s H vs Q E hr h => ?_)
  · obtain ⟨x, rfl, _⟩ := h
    rfl
  · obtain ⟨x, rfl, q⟩ := h
    refine ⟨_, pss_one (by exact (ps_ret (pe_and (pe_callB call_isi (by rfl) T.isM (by decide +kernel) (pa_cons (pv 0) (pa_cons (pe_bltn (v := .ty "str") (by rfl) T.str (by decide +kernel) rfl) pa_nil)))
      (pe_one (pe_callB (cr_all rfl) (by rfl) T.all (by decide +kernel) (pa_cons (pe_lc (own := [("character", 1)]) (g := gName 1) (tt := tYes) (te := tCall spLetter [] (fun _ _ _ => False) (tCons (tVar 1) tNil)) rfl scLi.nd (pi_str (pv 0))
        (blkOk_by (N := ["value", "character"]) (sc := defScope sLine) (by decide +kernel))
        (fun _ _ _ _ _ => by exact (pg_name (i := 1) scLi.nd rfl (Or.inl rfl)))
        (fun _ _ _ _ _ => by exact pts_nil)
        (fun _ _ _ _ _ => by exact (pe_call M.ok hr rfl M.m M.k M.b .nil pass0 (pa_cons (pv 1) pa_nil)))) pa_nil)))))), ?_⟩
    refine ⟨_, rfl, ?_⟩
    rcases q with ⟨z, rfl, small, q⟩ | ⟨nz, ⟨t, ty, ki⟩, q⟩
    · refine ⟨_, _, _, _, true, rfl, .ty _, .base (.str _), kit_ty (by decide +kernel), _, rfl, ?_⟩
      refine iteT ?_
      refine ⟨_, rfl, z, rfl, fun D nD => ?_⟩
      refine lc_it walk_str (fun i G => G D = some (.lst (((cod z).take i).map fun c => V.bl (decide (Lt c)))) ∧ Same H G) ⟨upd_same, same_upd nD⟩ (fun _ _ _ _ => True.intro) (fun i x G G' hi p y => ?_) (fun G p => ?_)
      · obtain ⟨pD, pS⟩ := p
        obtain ⟨rfl, c, hc, rfl⟩ := y
        have hc2 : (cod z)[i]? = some c := by
          show z.cps.toList[i]? = some c
          rw [Array.getElem?_toList]
          exact hc
        refine ⟨rfl, ?_⟩
        dsimp only [tYes]
        rw [if_pos rfl]
        refine ⟨_, rfl, c, rfl, _, pD, ?_, ?_, ?_⟩
        · rw [List.length_map, List.length_take]
          exact Nat.lt_of_le_of_lt (Nat.min_le_right _ _) (by rw [len_cod]; exact Nat.lt_trans small (by decide))
        · rw [List.take_succ, hc2, List.map_append]
          exact upd_same
        · intro b o e
          rw [upd_ne]
          · exact pS b o e
          · exact ne_of_none e nD
      · obtain ⟨pD, pS⟩ := p
        refine ⟨_, ((cod z).map fun c => decide (Lt c)), rfl, ?_, ?_⟩
        · have e : ((cod z).take z.cps.size) = cod z := List.take_of_length_le (by rw [len_cod]; exact Nat.le_refl _)
          rw [e] at pD
          rw [List.map_map]
          exact SqL.of pD
        · have e : ((cod z).map fun c => decide (Lt c)).all id = lineB z := by
            unfold lineB
            rw [List.all_map]
            rfl
          rw [e]
          exact q G pS
    · refine ⟨_, _, _, _, false, rfl, .ty _, ty, ki, _, rfl, ?_⟩
      exact iteF q
end
abbrev sIsText : Stmt := top 14
abbrev sChkT : Stmt := top 15
abbrev sIsInt : Stmt := top 17
abbrev sCounting : Stmt := top 18
abbrev sIsBlock : Stmt := top 20
abbrev sLenOf : Stmt := top 21
abbrev sEnds : Stmt := top 24
open LM
/-- a block that is right -/
structure Vb (b : Bk Str) : Prop where
  l1 : 1 ≤ b.1.length
  l4 : b.1.length ≤ 4
  t1 : 1 ≤ b.2
  t30 : b.2 ≤ 10 ^ 30
  ok : ∀ z ∈ b.1, lineB z = true ∧ z.length < 4000
/-- the law's block: a tuple of a list and a number -/
def BkL (H : Hp) (b : Bk Str) (v : V) : Prop := ∃ t a, v = .ref t ∧ H t = some (.tup [.ref a, .int (b.2 : Int)]) ∧ H a = some (.lst (b.1.map V.str))
/-- the program's: of a tuple and a number -/
def BkT (H : Hp) (b : Bk Str) (v : V) : Prop := ∃ t a, v = .ref t ∧ H t = some (.tup [.ref a, .int (b.2 : Int)]) ∧ H a = some (.tup (b.1.map V.str))
theorem BkL.same {H H' : Hp} (s : Same H H') {b : Bk Str} {v : V} (h : BkL H b v) : BkL H' b v := by
  obtain ⟨t, a, e, h1, h2⟩ := h
  exact ⟨t, a, e, s _ _ h1, s _ _ h2⟩
theorem BkT.same {H H' : Hp} (s : Same H H') {b : Bk Str} {v : V} (h : BkT H b v) : BkT H' b v := by
  obtain ⟨t, a, e, h1, h2⟩ := h
  exact ⟨t, a, e, s _ _ h1, s _ _ h2⟩
theorem pair_same {α : Type} {R : Hp → α → V → Prop} (mono : ∀ (H H' : Hp) (b : α) (v : V), Same H H' → R H b v → R H' b v) {H H' : Hp} (s : Same H H') : ∀ {bs : List α} {vs : List V}, Paired (fun b v => R H b v) bs vs → Paired (fun b v => R H' b v) bs vs
  | _, _, .nil => .nil
  | _, _, .cons a b => .cons (mono _ _ _ _ s a) (pair_same mono s b)
theorem pair_at {α β : Type} {R : α → β → Prop} : ∀ {bs : List α} {vs : List β} {i : Nat} {v : β}, Paired R bs vs → vs[i]? = some v → ∃ b, bs[i]? = some b ∧ R b v
  | _, _, i, v, .nil, h => by simp at h
  | _, _, 0, v, .cons a b, h => by
    rw [List.getElem?_cons_zero] at h
    cases h
    exact ⟨_, rfl, a⟩
  | _, _, i + 1, v, .cons a b, h => by
    rw [List.getElem?_cons_succ] at h ⊢
    exact pair_at b h
theorem pair_at2 {α β : Type} {R : α → β → Prop} : ∀ {bs : List α} {vs : List β} {i : Nat} {b : α}, Paired R bs vs → bs[i]? = some b → ∃ v, vs[i]? = some v ∧ R b v
  | _, _, i, v, .nil, h => by simp at h
  | _, _, 0, v, .cons a b, h => by
    rw [List.getElem?_cons_zero] at h
    cases h
    exact ⟨_, rfl, a⟩
  | _, _, i + 1, v, .cons a b, h => by
    rw [List.getElem?_cons_succ] at h ⊢
    exact pair_at2 b h
theorem pair_len {α β : Type} {R : α → β → Prop} : ∀ {bs : List α} {vs : List β}, Paired R bs vs → bs.length = vs.length
  | _, _, .nil => rfl
  | _, _, .cons _ b => congrArg Nat.succ (pair_len b)
theorem pair_app {α β : Type} {R : α → β → Prop} : ∀ {bs cs : List α} {vs ws : List β}, Paired R bs vs → Paired R cs ws → Paired R (bs ++ cs) (vs ++ ws)
  | _, _, _, _, .nil, b => b
  | _, _, _, _, .cons a r, b => .cons a (pair_app r b)
/-- how many lines blocks write, told by sums -/
theorem len_wr {α : Type} : ∀ bs : List (Bk α), (wr bs).length = (bs.map fun b => b.1.length * b.2).sum
  | [] => rfl
  | b :: bs => by
    rw [wr_cons, List.length_append, len_one, len_wr bs]
    rfl
theorem rows_small {n : Nat} (h : n ≤ 4) : ((n : Nat) : Int).natAbs < 2 ^ 3 := by
  show n < 8
  omega
theorem times_small {n : Nat} (h : n ≤ 10 ^ 30) : ((n : Nat) : Int).natAbs < 2 ^ 100 := by
  show n < 2 ^ 100
  exact Nat.lt_of_le_of_lt h (by decide)
section
variable {P : Program} {w : World} {K : PySem.W.Frag} {mg : Str → Option Value} {base : Heap} {t1 t2 t3 : Tok}
/-- is_text of a list of lines -/
def spIsText : Sp := fun vs H Q _ => ∃ (a : Addr) (rs : List Str), vs = [.ref a] ∧ H a = some (.lst (rs.map V.str)) ∧ rs.length ≤ 1000 ∧ (∀ z ∈ rs, lineB z = true ∧ z.length < 4000) ∧ ∀ H', Same H H' → Q (.bl true) H'
theorem scTx : FnScope ["value", "line"] ["value"] (defScope sIsText) := ⟨rfl, rfl, rfl, by decide +kernel, rfl, by decide +kernel, by decide +kernel⟩
theorem ok_isText {f f1 : Addr} {fd fd1 : FuncData} (F : Fun K "is_text" "is_text" sIsText f fd) (T : PkT mg t1 t2 t3) (mL : mg "list" = none) (mT : mg "tuple" = none) (M : CallOf P w K mg base 2 "is_line" ["value"] (spLine K) f1 fd1) : FnOk P w K mg base CX0 3 f fd ["value"] spIsText := by
  refine F.ok scTx (fun vs H Q E h => ?_) (fun cdv A outer s H vs Q E hr h => ?_)
  · obtain ⟨a, rs, rfl, _⟩ := h
    rfl
  · obtain ⟨a, rs, rfl, ha, hl, ok, q⟩ := h
    refine ⟨_, pss_one (by exact (ps_ret (pe_and (pe_callB call_isiT (by rfl) T.isM (by decide +kernel) (pa_cons (pv 0) (pa_cons (pe_tup (pa_cons (pe_bltn (v := .ty "list") (by rfl) mL (by decide +kernel) rfl) (pa_cons (pe_bltn (v := .ty "tuple") (by rfl) mT (by decide +kernel) rfl) pa_nil))) pa_nil)))
      (pe_one (pe_callB (cr_all rfl) (by rfl) T.all (by decide +kernel) (pa_cons (pe_lc (own := [("line", 1)]) (g := gName 1) (tt := tYes) (te := tCall (spLine K) [] (fun _ _ _ => False) (tCons (tVar 1) tNil)) rfl scTx.nd (pi_list (pv 0))
        (blkOk_by (N := ["value", "line"]) (sc := defScope sIsText) (by decide +kernel))
        (fun _ _ _ _ _ => by exact (pg_name (i := 1) scTx.nd rfl (Or.inl rfl)))
        (fun _ _ _ _ _ => by exact pts_nil)
        (fun _ _ _ _ _ => by exact (pe_call M.ok hr rfl M.m M.k M.b .nil pass0 (pa_cons (pv 1) pa_nil)))) pa_nil)))))), ?_⟩
    refine ⟨_, rfl, (by show 2 ≤ sizeLine; decide), fun TT nT => ?_⟩
    have sT := same_upd (o := .tup [.ty "list", .ty "tuple"]) nT
    refine ⟨_, TT, _, _, _, true, rfl, upd_same, .cons (.ty _) (.cons (.ty _) .nil), .base (.lst (sT _ _ ha)), kitAny_cons (b := true) (kit_ty (by decide +kernel)) (fun e => nomatch e) (fun _ => rfl), _, rfl, iteT ?_⟩
    refine ⟨_, rfl, a, rfl, ⟨_, SqL.of (sT _ _ ha)⟩, fun DD nD => ?_⟩
    refine lc_it (walk_list (K := K) (a := a) (xs := rs.map V.str)) (fun i Y => Y DD = some (.lst (List.replicate i (V.bl true))) ∧ Same H Y) ⟨upd_same, sT.trans (same_upd nD)⟩ (fun i Y _ p => SqL.of (p.2 _ _ ha)) (fun i x Y Y' hi p yl => ?_) (fun Y p => ?_)
    · obtain ⟨pD, pS⟩ := p
      obtain ⟨rfl, hx⟩ := yl
      rw [List.getElem?_map] at hx
      obtain ⟨z, hz, rfl⟩ := Option.map_eq_some_iff.mp hx
      obtain ⟨lz, sz⟩ := ok z (List.mem_of_getElem? hz)
      refine ⟨rfl, ?_⟩
      dsimp only [tYes]
      rw [if_pos rfl]
      refine ⟨_, rfl, _, rfl, .inl ⟨z, rfl, by omega, fun Z sZ => ?_⟩⟩
      rw [lz]
      rw [List.length_map] at hi
      refine ⟨_, sZ _ _ pD, ?_, ?_, ?_⟩
      · rw [List.length_replicate]
        exact Nat.lt_of_le_of_lt (Nat.le_of_lt hi) (Nat.lt_of_le_of_lt hl (by decide))
      · rw [upd_same, List.replicate_succ']
      · intro b o e
        have ne : b ≠ DD := ne_of_none (sT b o e) nD
        rw [upd_ne ne]
        exact sZ _ _ (pS b o e)
    · obtain ⟨pD, pS⟩ := p
      rw [List.length_map] at pD
      refine ⟨DD, List.replicate rs.length true, rfl, ?_, ?_⟩
      · have e : (List.replicate rs.length true).map V.bl = List.replicate rs.length (V.bl true) := List.map_replicate
        rw [e]
        exact SqL.of pD
      · have e : (List.replicate rs.length true).all id = true := by simp
        rw [e]
        exact q Y pS
end
end LA
end
section
set_option Elab.async false
set_option linter.all false
set_option maxRecDepth 100000
set_option maxHeartbeats 4100000
namespace LA
open PySem L2 XS XT LM
theorem sum_wr {α : Type} : ∀ bs : List (Bk α), (bs.map fun b => ((b.1.length * b.2 : Nat) : Int)).sum = ((wr bs).length : Int)
  | [] => rfl
  | b :: bs => by
    rw [List.map_cons, List.sum_cons, sum_wr bs, wr_cons, List.length_append, len_one]
    omega
theorem vals_ints (ns : List Int) : ns.map V.int = ns.map V.int := rfl
section
variable {P : Program} {w : World} {K : PySem.W.Frag} {mg : Str → Option Value} {base : Heap} {t1 t2 t3 : Tok}
abbrev rLen (K : PySem.W.Frag) : List V → Hp → VK → Prop := fun xs H Q => ∃ p ys, xs = [.ref p] ∧ (SqL K H p ys ∨ SqT K H p ys) ∧ Q (.int ys.length) H
def spInt : Sp := fun vs H Q _ => ∃ k : Int, vs = [.int k] ∧ Q (.bl true) H
theorem scII : FnScope ["value"] ["value"] (defScope sIsInt) := ⟨rfl, rfl, rfl, by decide +kernel, rfl, by decide +kernel, by decide +kernel⟩
theorem ok_isInt {f : Addr} {fd : FuncData} (F : Fun K "is_integer" "is_integer" sIsInt f fd) (isM : mg "isinstance" = none) (mI : mg "int" = none) (mB : mg "bool" = none) : FnOk P w K mg base CX0 1 f fd ["value"] spInt := by
  refine F.ok scII (fun vs H Q E h => ?_) (fun cdv A outer s H vs Q E hr h => ?_)
  · obtain ⟨k, rfl, _⟩ := h
    rfl
  · obtain ⟨k, rfl, q⟩ := h
    refine ⟨_, pss_one (by exact (ps_ret (pe_and (pe_callB call_isi (by rfl) isM (by decide +kernel) (pa_cons (pv 0) (pa_cons (pe_bltn (v := .ty "int") (by rfl) mI (by decide +kernel) rfl) pa_nil))) (pe_one (pe_not (pe_callB call_isi (by rfl) isM (by decide +kernel) (pa_cons (pv 0) (pa_cons (pe_bltn (v := .ty "bool") (by rfl) mB (by decide +kernel) rfl) pa_nil)))))))), ?_⟩
    refine ⟨_, rfl, _, _, _, _, true, rfl, .ty _, .base (.int _), kit_ty (by decide +kernel), _, rfl, iteT ?_⟩
    refine ⟨_, rfl, _, _, _, _, false, rfl, .ty _, .base (.int _), kit_ty (by decide +kernel), _, rfl, ?_⟩
    exact q
def spCnt : Sp := fun vs H Q _ => ∃ k : Int, vs = [.int k] ∧ Q (.bl (decide (1 ≤ k))) H
theorem scCn : FnScope ["value"] ["value"] (defScope sCounting) := ⟨rfl, rfl, rfl, by decide +kernel, rfl, by decide +kernel, by decide +kernel⟩
theorem ok_counting {f f1 : Addr} {fd fd1 : FuncData} (F : Fun K "is_counting" "is_counting" sCounting f fd) (M : CallOf P w K mg base 1 "is_integer" ["value"] spInt f1 fd1) : FnOk P w K mg base CX0 2 f fd ["value"] spCnt := by
  refine F.ok scCn (fun vs H Q E h => ?_) (fun cdv A outer s H vs Q E hr h => ?_)
  · obtain ⟨k, rfl, _⟩ := h
    rfl
  · obtain ⟨k, rfl, q⟩ := h
    refine ⟨_, pss_one (by exact (ps_ret (pe_and (pe_call M.ok hr rfl M.m M.k M.b .nil pass0 (pa_cons (pv 0) pa_nil)) (pe_one (pe_cmpR op_ge (pv 0) pe_int (nomark _)))))), ?_⟩
    exact ⟨_, rfl, k, rfl, _, rfl, iteT ⟨_, rfl, _, _, rfl, rfl, q⟩⟩
/-- is_block of a right block -/
def spIsBlk : Sp := fun vs H Q _ => ∃ (v : V) (b : Bk Str), vs = [v] ∧ BkL H b v ∧ Vb b ∧ ∀ H', Same H H' → Q (.bl true) H'
theorem scBl : FnScope ["value", "lines", "times"] ["value"] (defScope sIsBlock) := ⟨rfl, rfl, rfl, by decide +kernel, rfl, by decide +kernel, by decide +kernel⟩
theorem ok_isBlk {f f1 f2 : Addr} {fd fd1 fd2 : FuncData} {tk1 tk2 : Tok} (F : Fun K "is_block" "is_block" sIsBlock f fd) (T : PkT mg t1 t2 t3) (mT : mg "tuple" = none) (m4 : mg "MAX_LINES" = some (.int 4 tk1)) (m30 : mg "MAX_TIMES" = some (.int (10 ^ 30) tk2)) (M : CallOf P w K mg base 3 "is_text" ["value"] spIsText f1 fd1) (N : CallOf P w K mg base 2 "is_counting" ["value"] spCnt f2 fd2) :
    FnOk P w K mg base CX0 4 f fd ["value"] spIsBlk := by
  refine F.ok scBl (fun vs H Q E h => ?_) (fun cdv A outer s H vs Q E hr h => ?_)
  · obtain ⟨v, b, rfl, _⟩ := h
    rfl
  · obtain ⟨v, b, rfl, ⟨t, a, rfl, ht, ha⟩, vb, q⟩ := h
    have hr2 : Room 2 _ := hr.mono (by decide)
    refine ⟨_, pss_cons (by exact (ps_if (PW.pt (pw_or (pt_not (pt_val (pe_callB call_isi (by rfl) T.isM (by decide +kernel) (pa_cons (pv 0) (pa_cons (pe_bltn (v := .ty "tuple") (by rfl) mT (by decide +kernel) rfl) pa_nil))))) (pw_or1 (pt_cmpR op_ne (pe_callB call_len_seq (by rfl) T.len PySem.boot_len (pa_cons (pv 0) pa_nil)) pe_int (nomark _))))) (pss_one (by exact (ps_ret pe_bl))) pss_nil)) (
      pss_cons (by exact (ps_asg (pv 0) (pg_tup (by rfl) (pgs_cons (pg_name (i := 1) scBl.nd rfl (Or.inl rfl)) (pgs_cons (pg_name (i := 2) scBl.nd rfl (Or.inl rfl)) pgs_nil))))) (
      pss_one (by exact (ps_ret (pe_and (pe_call M.ok hr rfl M.m M.k M.b .nil pass0 (pa_cons (pv 1) pa_nil)) (pe_and (pe_chain op_le op_le pe_int (pe_callB call_len_seq (by rfl) T.len PySem.boot_len (pa_cons (pv 1) pa_nil)) (pe_glob (v := .int 4) rfl m4 ⟨_, rfl⟩)) (pe_and (pe_call N.ok hr2 rfl N.m N.k N.b .nil pass0 (pa_cons (pv 2) pa_nil)) (pe_one (pe_cmpR op_le (pv 2) (pe_glob (v := .int (10 ^ 30)) rfl m30 ⟨_, rfl⟩) (nomark _)))))))))), ?_⟩
    refine ⟨_, rfl, _, _, _, _, true, rfl, .ty _, .base (.tup ht), kit_ty (by decide +kernel), _, rfl, iteF ?_⟩
    refine ⟨_, rfl, t, _, rfl, .inr (SqT.of ht), rfl, _, rfl, iteF ?_⟩
    refine ⟨_, rfl, t, _, rfl, SqT.of ht, rfl, _, _, rfl, _, _, rfl, rfl, ?_⟩
    refine ⟨_, rfl, a, b.1, rfl, ha, Nat.le_trans vb.l4 (by decide), vb.ok, fun H1 s1 => ⟨_, rfl, iteT ?_⟩⟩
    refine ⟨_, rfl, a, _, rfl, .inl (SqL.of (s1 _ _ ha)), _, _, rfl, rfl, _, rfl, ?_⟩
    have e1 : ((b.1.map V.str).length : Int) = (b.1.length : Int) := by rw [List.length_map]
    have l1 := vb.l1
    have l4 := vb.l4
    have k1 := vb.t1
    have k30 := vb.t30
    rw [e1, decide_eq_true (show (1 : Int) ≤ (b.1.length : Int) by omega)]
    refine iteT ⟨_, _, rfl, rfl, _, rfl, ?_⟩
    rw [decide_eq_true (show (b.1.length : Int) ≤ 4 by omega)]
    refine iteT ⟨_, rfl, _, rfl, ?_⟩
    rw [decide_eq_true (show (1 : Int) ≤ (b.2 : Int) by omega)]
    refine ⟨_, rfl, iteT ⟨_, rfl, _, _, rfl, rfl, ?_⟩⟩
    have e3 : decide ((b.2 : Int) ≤ 10 ^ 30) = true := decide_eq_true (by omega)
    show Q (.bl (decide ((b.2 : Int) ≤ 10 ^ 30))) H1
    rw [e3]
    exact q H1 s1
/-- how many lines the program's blocks write -/
def spLenOf : Sp := fun vs H Q _ => ∃ (t : Addr) (us : List V) (bs : List (Bk Str)), vs = [.ref t] ∧ H t = some (.tup us) ∧ Paired (fun b v => BkT H b v) bs us ∧ (∀ b ∈ bs, Vb b) ∧ bs.length ≤ 1000 ∧ ∀ H', Same H H' → Q (.int ((wr bs).length : Int)) H'
theorem scLo : FnScope ["blocks", "lines", "times"] ["blocks"] (defScope sLenOf) := ⟨rfl, rfl, rfl, by decide +kernel, rfl, by decide +kernel, by decide +kernel⟩
theorem ok_lenOf {f : Addr} {fd : FuncData} (F : Fun K "length_of" "length_of" sLenOf f fd) (mL : mg "len" = none) (mS : mg "sum" = none) : FnOk P w K mg base CX0 1 f fd ["blocks"] spLenOf := by
  refine F.ok scLo (fun vs H Q E h => ?_) (fun cdv A outer s H vs Q E hr h => ?_)
  · obtain ⟨t, us, bs, rfl, _⟩ := h
    rfl
  · obtain ⟨t, us, bs, rfl, ht, pr, vb, lb, q⟩ := h
    refine ⟨_, pss_one (by exact (ps_ret (pe_callB (cr_sum rfl) (by rfl) mS (by decide +kernel) (pa_cons (pe_lc (own := [("lines", 1), ("times", 2)]) (g := gTup K 2 (gCons (gName 1) (gCons (gName 2) gNil))) (tt := tYes) (te := tOp (rI CMulW fun i j => .int (i * j)) (tCB (rLen K) (tCons (tVar 1) tNil)) (tVar 2)) rfl scLo.nd (pi_tup (pv 0))
        (blkOk_by (N := ["blocks", "lines", "times"]) (sc := defScope sLenOf) (by decide +kernel))
        (fun _ _ _ _ _ => by exact (pg_tup rfl (pgs_cons (by exact (pg_name (i := 1) scLo.nd rfl (Or.inl rfl))) (pgs_cons (by exact (pg_name (i := 2) scLo.nd rfl (Or.inl rfl))) pgs_nil))))
        (fun _ _ _ _ _ => by exact pts_nil)
        (fun _ _ _ _ _ => by exact (pe_op op_mulW (pe_callB call_len_seq (by rfl) mL PySem.boot_len (pa_cons (pv 1) pa_nil)) (pv 2)))) pa_nil)))), ?_⟩
    refine ⟨_, rfl, t, rfl, ⟨_, SqT.of ht⟩, fun DD nD => ?_⟩
    refine lc_it (walk_tup (K := K) (a := t) (xs := us)) (fun i Y => Y DD = some (.lst ((bs.take i).map fun b => V.int ((b.1.length * b.2 : Nat) : Int))) ∧ Same H Y) ⟨upd_same, same_upd nD⟩ (fun i Y _ p => SqT.of (p.2 _ _ ht)) (fun i x Y Y' hi p yl => ?_) (fun Y p => ?_)
    · obtain ⟨pD, pS⟩ := p
      obtain ⟨rfl, hx⟩ := yl
      obtain ⟨b, hb, tb, ab, rfl, h1, h2⟩ := pair_at pr hx
      have v := vb b (List.mem_of_getElem? hb)
      refine ⟨tb, _, rfl, SqT.of (pS _ _ h1), rfl, _, _, rfl, _, _, rfl, rfl, rfl, ?_⟩
      dsimp only [tYes]
      rw [if_pos rfl]
      refine ⟨_, rfl, ab, _, rfl, .inr (SqT.of (pS _ _ h2)), _, rfl, _, _, rfl, rfl, ?_⟩
      have e1 : ((b.1.map V.str).length : Int) = (b.1.length : Int) := by rw [List.length_map]
      rw [e1]
      refine ⟨wide_mul (rows_small v.l4) (times_small v.t30) (by decide) (by decide) (by decide), _, pD, ?_, ?_, ?_⟩
      · rw [List.length_map, List.length_take]
        exact Nat.lt_of_le_of_lt (Nat.min_le_right _ _) (Nat.lt_of_le_of_lt lb (by decide))
      · rw [List.take_succ, hb, List.map_append]
        exact upd_same
      · intro c o e
        rw [upd_ne (ne_of_none e nD)]
        exact pS c o e
    · obtain ⟨pD, pS⟩ := p
      rw [← pair_len pr, List.take_length] at pD
      refine ⟨DD, (bs.map fun b => ((b.1.length * b.2 : Nat) : Int)), rfl, ?_, ?_⟩
      · rw [List.map_map]
        exact SqL.of pD
      · rw [sum_wr]
        exact q Y pS
end
end LA
end
section
set_option Elab.async false
set_option linter.all false
set_option maxRecDepth 100000
set_option maxHeartbeats 4100000
namespace LA
open PySem L2 XS XT LM
abbrev sFU : Stmt := top 22
/-- where each block ends -/
def endsOf {α : Type} (bs : List (Bk α)) : List Int := (List.range bs.length).map fun i => ((wr (bs.take (i + 1))).length : Int)
theorem endsOf_at {α : Type} {bs : List (Bk α)} {i : Nat} (h : i < bs.length) : (endsOf bs)[i]? = some ((wr (bs.take (i + 1))).length : Int) := by
  unfold endsOf
  rw [List.getElem?_map, List.getElem?_range h]
  rfl
theorem endsOf_len {α : Type} (bs : List (Bk α)) : (endsOf bs).length = bs.length := by
  unfold endsOf
  rw [List.length_map, List.length_range]
theorem wr_take {α : Type} {bs : List (Bk α)} {i : Nat} {b : Bk α} (h : bs[i]? = some b) : (wr (bs.take (i + 1))).length = (wr (bs.take i)).length + b.1.length * b.2 := by
  rw [List.take_succ, h]
  show (wr (bs.take i ++ [b])).length = _
  rw [wr_app, List.length_append, wr_cons, wr_nil, List.append_nil, len_one]
theorem cast_mod (x j n : Nat) : ((x : Int) + (0 + (j : Int))) % (n : Int) = (((x + j) % n : Nat) : Int) := by
  rw [Int.zero_add, ← Int.natCast_add, Int.natCast_emod]
section
variable {P : Program} {w : World} {K : PySem.W.Frag} {mg : Str → Option Value} {base : Heap} {t1 t2 t3 : Tok}
def spFU : Sp := fun vs H Q _ => ∃ (a b : Addr) (r t : List Str) (x y m : Nat), vs = [.ref a, .ref b, .int x, .int y, .int m] ∧ H a = some (.tup (r.map V.str)) ∧ H b = some (.tup (t.map V.str)) ∧ 0 < r.length ∧ 0 < t.length ∧ m ≤ 1000 ∧
  ∀ k : Nat, k ≤ m → (∀ j, j < k → r[(x + j) % r.length]? = t[(y + j) % t.length]?) → (k < m → r[(x + k) % r.length]? ≠ t[(y + k) % t.length]?) → Q (.int (k : Int)) H
theorem scFU : FnScope ["one", "other", "at", "place", "many", "ahead"] ["one", "other", "at", "place", "many"] (defScope sFU) := ⟨rfl, rfl, rfl, by decide +kernel, rfl, by decide +kernel, by decide +kernel⟩
theorem ok_FU {f : Addr} {fd : FuncData} (F : Fun K "first_unlike" "first_unlike" sFU f fd) (mL : mg "len" = none) (mR : mg "range" = none) : FnOk P w K mg base CX0 1 f fd ["one", "other", "at", "place", "many"] spFU := by
  refine F.ok scFU (fun vs H Q E h => ?_) (fun cdv A outer s H vs Q E hr h => ?_)
  · obtain ⟨a, b, r, t, x, y, m, rfl, _⟩ := h
    rfl
  · obtain ⟨a, b, r, t, x, y, m, rfl, ha, hb, hr0, ht0, hm, q⟩ := h
    refine ⟨_, pss_cons (by exact (ps_for PassesOwn.never rfl (pi_range1 rfl mR (pa_cons (pv 4) pa_nil)) (pg_name (i := 5) scFU.nd rfl (Or.inl rfl)) (pss_one (by exact (ps_if (pt_cmpR op_ne
        (pe_ix ix_tup (pv 0) (pe_op op_mod (pe_op op_add (pv 2) (pv 5)) (pe_callB call_len_seq (by rfl) mL PySem.boot_len (pa_cons (pv 0) pa_nil))) (fun _ _ => rfl))
        (pe_ix ix_tup (pv 1) (pe_op op_mod (pe_op op_add (pv 3) (pv 5)) (pe_callB call_len_seq (by rfl) mL PySem.boot_len (pa_cons (pv 1) pa_nil))) (fun _ _ => rfl)) (nomark _)) (pss_one (by exact (ps_ret (pv 5)))) pss_nil))))) (
      pss_one (by exact (ps_ret (pv 4)))), ?_⟩
    refine ⟨_, rfl, (m : Int), rfl, by omega, by omega, for_range (lo := 0) (n := m) (fun i σ X => X = H ∧ (∃ x5 : Option V, σ = [some (.ref a), some (.ref b), some (.int x), some (.int y), some (.int m), x5]) ∧ ∀ j, j < i → r[(x + j) % r.length]? = t[(y + j) % t.length]?) ⟨rfl, ⟨none, rfl⟩, fun j hj => absurd hj (Nat.not_lt_zero _)⟩ (fun i σ X hi pv0 => ?_) (fun σ X pv0 => ?_)⟩
    · obtain ⟨rfl, ⟨x5, rfl⟩, eq⟩ := pv0
      have la : ((r.map V.str).length : Int) = (r.length : Int) := by rw [List.length_map]
      have lb : ((t.map V.str).length : Int) = (t.length : Int) := by rw [List.length_map]
      have ir : (x + i) % r.length < r.length := Nat.mod_lt _ hr0
      have it : (y + i) % t.length < t.length := Nat.mod_lt _ ht0
      have er : r[(x + i) % r.length]? = some (r[(x + i) % r.length]) := List.getElem?_eq_getElem ir
      have et : t[(y + i) % t.length]? = some (t[(y + i) % t.length]) := List.getElem?_eq_getElem it
      refine ⟨_, rfl, _, rfl, _, rfl, _, _, rfl, rfl, _, rfl, a, _, rfl, .inr (SqT.of ha), _, _, rfl, rfl, (by rw [la]; omega), ?_⟩
      refine ⟨a, _, _, .str (r[(x + i) % r.length]), rfl, rfl, SqT.of ha, (by rw [la, cast_mod]; exact atI_nat (by rw [List.getElem?_map, er]; rfl)), ?_⟩
      refine ⟨_, rfl, _, rfl, _, rfl, _, _, rfl, rfl, _, rfl, b, _, rfl, .inr (SqT.of hb), _, _, rfl, rfl, (by rw [lb]; omega), ?_⟩
      refine ⟨b, _, _, .str (t[(y + i) % t.length]), rfl, rfl, SqT.of hb, (by rw [lb, cast_mod]; exact atI_nat (by rw [List.getElem?_map, et]; rfl)), ?_⟩
      refine ⟨rfl, _, rfl, ?_⟩
      by_cases c : r[(x + i) % r.length] = t[(y + i) % t.length]
      · rw [decide_eq_true (show V.str (r[(x + i) % r.length]) = V.str (t[(y + i) % t.length]) by rw [c])]
        refine iteF ⟨rfl, ⟨_, rfl⟩, fun j hj => ?_⟩
        by_cases e : j = i
        · rw [e, er, et, c]
        · exact eq j (by omega)
      · rw [decide_eq_false (fun z => c (by injection z))]
        refine iteT ⟨_, rfl, ?_⟩
        have z := q i (Nat.le_of_lt hi) eq (fun _ z => c (by rw [er, et] at z; exact Option.some.inj z))
        rw [show (0 : Int) + (i : Int) = (i : Int) by omega]
        exact z
    · obtain ⟨rfl, ⟨x5, rfl⟩, eq⟩ := pv0
      exact ⟨_, rfl, q m (Nat.le_refl _) eq (fun z => absurd z (Nat.lt_irrefl _))⟩
/-- block_ends -/
def spEnds : Sp := fun vs H Q _ => ∃ (t : Addr) (us : List V) (bs : List (Bk Str)), vs = [.ref t] ∧ H t = some (.tup us) ∧ Paired (fun b v => BkT H b v) bs us ∧ (∀ b ∈ bs, Vb b) ∧ bs.length ≤ 1000 ∧ ∀ (p : Addr) (H' : Hp), H' p = some (.lst ((endsOf bs).map V.int)) → Same H H' → Q (.ref p) H'
theorem scEn : FnScope ["blocks", "ends", "end", "lines", "times"] ["blocks"] (defScope sEnds) := ⟨rfl, rfl, rfl, by decide +kernel, rfl, by decide +kernel, by decide +kernel⟩
theorem ok_ends {f : Addr} {fd : FuncData} (F : Fun K "block_ends" "block_ends" sEnds f fd) (mL : mg "len" = none) : FnOk P w K mg base CX0 1 f fd ["blocks"] spEnds := by
  refine F.ok scEn (fun vs H Q E h => ?_) (fun cdv A outer s H vs Q E hr h => ?_)
  · obtain ⟨t, us, bs, rfl, _⟩ := h
    rfl
  · obtain ⟨t, us, bs, rfl, ht, pr, vb, lb, q⟩ := h
    refine ⟨_, pss_cons (by exact (ps_set (i := 1) scEn.nd rfl (.inl rfl) (pe_lst pa_nil))) (pss_cons (by exact (ps_set (i := 2) scEn.nd rfl (.inl rfl) pe_int)) (
      pss_cons (by exact (ps_for PassesOwn.never rfl (pi_tup (pv 0)) (pg_tup rfl (pgs_cons (by exact (pg_name (i := 3) scEn.nd rfl (Or.inl rfl))) (pgs_cons (by exact (pg_name (i := 4) scEn.nd rfl (Or.inl rfl))) pgs_nil))) (
        pss_cons (by exact (ps_set (i := 2) scEn.nd rfl (.inl rfl) (pe_op op_add (pv 2) (pe_op op_mulW (pe_callB call_len_seq (by rfl) mL PySem.boot_len (pa_cons (pv 3) pa_nil)) (pv 4))))) (
        pss_one (by exact (ps_expr (pe_bm PySem.F.plainAttrs_list PySem.F.slot_list_append PySem.F.type_list_append mt_append (pv 1) (pa_cons (pv 2) pa_nil)))))))) (
      pss_one (by exact (ps_ret (pv 1)))))), ?_⟩
    refine ⟨(by show 0 ≤ sizeLine; decide), fun L nL => ?_⟩
    refine ⟨_, rfl, t, rfl, ⟨_, SqT.of ((same_upd nL) _ _ ht)⟩, for_tup (K := K) (a := t) (xs := us) (fun i σ X => (∃ (x3 x4 : Option V) (e : Int), σ = [some (.ref t), some (.ref L), some (.int e), x3, x4] ∧ e = ((wr (bs.take i)).length : Int)) ∧ X L = some (.lst (((endsOf bs).take i).map V.int)) ∧ Same H X) ⟨⟨none, none, 0, rfl, rfl⟩, upd_same, same_upd nL⟩ (fun i σ X _ p => SqT.of (p.2.2 _ _ ht)) (fun i x σ X hx p => ?_) (fun σ X p => ?_)⟩
    · obtain ⟨⟨x3, x4, e, rfl, ee⟩, pL, pS⟩ := p
      obtain ⟨b, hb, tb, ab, rfl, h1, h2⟩ := pair_at pr hx
      have v := vb b (List.mem_of_getElem? hb)
      have hi : i < bs.length := (List.getElem?_eq_some_iff.mp hb).1
      refine ⟨tb, _, rfl, SqT.of (pS _ _ h1), rfl, _, _, rfl, _, _, rfl, rfl, ?_⟩
      have e1 : ((b.1.map V.str).length : Int) = (b.1.length : Int) := by rw [List.length_map]
      refine ⟨_, rfl, _, rfl, ab, _, rfl, .inr (SqT.of (pS _ _ h2)), _, rfl, _, _, rfl, rfl, ?_⟩
      have e2 : e + (((b.1.map V.str).length : Nat) : Int) * ((b.2 : Nat) : Int) = ((wr (bs.take (i + 1))).length : Int) := by
        rw [wr_take hb, Int.natCast_add, Int.natCast_mul, e1, ee]
      refine ⟨wide_mul (by rw [e1]; exact rows_small v.l4) (times_small v.t30) (by decide) (by decide) (by decide), _, _, rfl, rfl, ?_⟩
      refine ⟨_, rfl, .inl ⟨rfl, _, SqL.of pL⟩, _, rfl, L, _, _, rfl, rfl, pL, ?_, ?_⟩
      · rw [List.length_map, List.length_take]
        exact Nat.lt_of_le_of_lt (Nat.min_le_right _ _) (by rw [endsOf_len]; exact Nat.lt_of_le_of_lt lb (by decide))
      · refine ⟨⟨_, _, _, rfl, e2⟩, ?_, ?_⟩
        · rw [List.take_succ, endsOf_at hi, List.map_append, ← e2]
          exact upd_same
        · intro c o e
          rw [upd_ne (ne_of_none e nL)]
          exact pS c o e
    · obtain ⟨⟨x3, x4, e, rfl, ee⟩, pL, pS⟩ := p
      rw [← pair_len pr, ← endsOf_len, List.take_length] at pL
      exact ⟨_, rfl, q L X pL pS⟩
end
end LA
end
section
set_option Elab.async false
set_option linter.all false
set_option maxRecDepth 100000
set_option maxHeartbeats 4100000
namespace LA
open PySem L2 XS XT LM
abbrev sUn : Stmt := top 23
/-- the block at a, and where it begins, hold the place st -/
structure At (bs : List (Bk Str)) (a st : Nat) : Prop where
  le : a ≤ bs.length
  lo : (wr (bs.take a)).length ≤ st
  hi : st < (wr bs).length → a < bs.length ∧ st < (wr (bs.take (a + 1))).length
theorem At.zero {bs : List (Bk Str)} (v : ∀ b ∈ bs, Vb b) : At bs 0 0 := ⟨Nat.zero_le _, Nat.le_refl _, fun h => by
  cases bs with
  | nil => exact absurd h (Nat.lt_irrefl _)
  | cons b bs =>
    refine ⟨Nat.succ_pos _, ?_⟩
    have vb := v b (List.mem_cons_self ..)
    show 0 < (wr [b]).length
    rw [wr_cons, wr_nil, List.append_nil, len_one]
    exact Nat.mul_pos vb.l1 vb.t1⟩
theorem take_le {bs : List (Bk Str)} (a : Nat) : (wr (bs.take a)).length ≤ (wr bs).length := by
  have e : wr bs = wr (bs.take a) ++ wr (bs.drop a) := by rw [← wr_app, List.take_append_drop]
  rw [e, List.length_append]
  exact Nat.le_add_right _ _
/-- behind the end of a block the next one holds the place -/
theorem At.next {bs : List (Bk Str)} (v : ∀ b ∈ bs, Vb b) {a u : Nat} (ha : a < bs.length) (hu : (wr (bs.take (a + 1))).length = u) : At bs (a + 1) u := by
  refine ⟨ha, Nat.le_of_eq hu, fun h => ?_⟩
  have lt : a + 1 < bs.length := by
    rcases Nat.lt_or_ge (a + 1) bs.length with c | c
    · exact c
    · rw [List.take_of_length_le c] at hu
      omega
  refine ⟨lt, ?_⟩
  have eb : bs[a + 1]? = some bs[a + 1] := List.getElem?_eq_getElem lt
  have vb := v bs[a + 1] (List.getElem_mem lt)
  rw [wr_take eb, hu]
  have := Nat.mul_pos vb.l1 vb.t1
  omega
theorem At.stay {bs : List (Bk Str)} {a st u : Nat} (h : At bs a st) (ha : a < bs.length) (h1 : st ≤ u) (h2 : u < (wr (bs.take (a + 1))).length) : At bs a u := ⟨h.le, Nat.le_trans h.lo h1, fun _ => ⟨ha, h2⟩⟩
/-- the lines of a block, read at its place -/
theorem At.get {bs : List (Bk Str)} {a st : Nat} (h : At bs a st) {b : Bk Str} (eb : bs[a]? = some b) {n : Nat} (hn : st + n < (wr (bs.take (a + 1))).length) : (wr bs)[st + n]? = b.1[(st - (wr (bs.take a)).length + n) % b.1.length]? := by
  have lo := h.lo
  rw [wr_take eb] at hn
  have e : bs = bs.take a ++ b :: bs.drop (a + 1) := by
    obtain ⟨ha, e1⟩ := List.getElem?_eq_some_iff.mp eb
    rw [← e1, List.getElem_cons_drop, List.take_append_drop]
  have z := get_mid (bs.take a) b (bs.drop (a + 1)) (st - (wr (bs.take a)).length + n) (by omega)
  rw [← e, show (wr (bs.take a)).length + (st - (wr (bs.take a)).length + n) = st + n by omega] at z
  exact z
theorem bkT_same {H H' : Hp} (s : Same H H') {bs : List (Bk Str)} {us : List V} (p : Paired (fun b v => BkT H b v) bs us) : Paired (fun b v => BkT H' b v) bs us := pair_same (fun _ _ _ _ s h => h.same s) s p
/-- None or the index, as the program hands it on -/
def unV : Option Nat → V
  | none => .non
  | some n => .int (n : Int)
/-- the search's state -/
def UnI (bs cs : List (Bk Str)) (a b L1 L2 : Addr) (H4 : Hp) (σ : St) (X : Hp) : Prop := ∃ (st a' p : Nat) (zs za zp e : Int) (x8 x9 x10 x11 x12 x13 x14 : Option V), σ = [some (.ref a), some (.ref b), some (.int zs), some (.int za), some (.int zp), some (.int e), some (.ref L1), some (.ref L2), x8, x9, x10, x11, x12, x13, x14] ∧ zs = (st : Int) ∧ za = (a' : Int) ∧ zp = (p : Int) ∧ e = ((min (wr bs).length (wr cs).length : Nat) : Int) ∧ Same H4 X ∧ At bs a' st ∧ At cs p st ∧ (∀ m, m < st → (wr bs)[m]? = (wr cs)[m]?) ∧ st ≤ min (wr bs).length (wr cs).length
theorem args5 {A B : Addr} {x y m : Int} {x' y' m' : Nat} (h1 : x = (x' : Int)) (h2 : y = (y' : Int)) (h3 : m = (m' : Int)) : [V.ref A, V.ref B, V.int x, V.int y, V.int m] = [V.ref A, V.ref B, V.int (x' : Int), V.int (y' : Int), V.int (m' : Int)] := by rw [h1, h2, h3]
theorem ite_lt {k m : Nat} {X : Int} {A B : Prop} (e : X = (m : Int)) (h1 : k < m → A) (h2 : ¬ k < m → B) : if decide ((k : Int) < X) = true then A else B := by
  subst e
  by_cases c : k < m
  · rw [if_pos (decide_eq_true (by omega))]
    exact h1 c
  · rw [if_neg (by rw [decide_eq_false (by omega)]; decide)]
    exact h2 c
theorem ite_eqI {x y : Int} {A B : Prop} (h1 : x = y → A) (h2 : x ≠ y → B) : if decide (V.int x = V.int y) = true then A else B := by
  by_cases c : x = y
  · rw [if_pos (decide_eq_true (by rw [c]))]
    exact h1 c
  · rw [if_neg (by rw [decide_eq_false (fun z => c (by injection z))]; decide)]
    exact h2 c
section
variable {P : Program} {w : World} {K : PySem.W.Frag} {mg : Str → Option Value} {base : Heap} {t1 t2 t3 : Tok}
def spUn : Sp := fun vs H Q _ => ∃ (a b : Addr) (us ws : List V) (bs cs : List (Bk Str)), vs = [.ref a, .ref b] ∧ H a = some (.tup us) ∧ H b = some (.tup ws) ∧ Paired (fun b v => BkT H b v) bs us ∧ Paired (fun b v => BkT H b v) cs ws ∧ (∀ b ∈ bs, Vb b) ∧ (∀ b ∈ cs, Vb b) ∧ bs.length ≤ 1000 ∧ cs.length ≤ 1000 ∧
  ∀ (r : Option Nat) (H' : Hp), IsU (wr bs) (wr cs) r → Same H H' → Q (unV r) H'
theorem scUn : FnScope ["one", "other", "start", "at", "place", "end", "ends", "others", "lines", "more", "until", "many", "low", "high", "alike"] ["one", "other"] (defScope sUn) := ⟨rfl, rfl, rfl, by decide +kernel, rfl, by decide +kernel, by decide +kernel⟩
theorem ok_un {f f1 f2 f3 : Addr} {fd fd1 fd2 fd3 : FuncData} (F : Fun K "unlike_index" "unlike_index" sUn f fd) (mL : mg "len" = none) (mM : mg "min" = none) (LO : CallOf P w K mg base 1 "length_of" ["blocks"] spLenOf f1 fd1) (EN : CallOf P w K mg base 1 "block_ends" ["blocks"] spEnds f2 fd2) (FU : CallOf P w K mg base 1 "first_unlike" ["one", "other", "at", "place", "many"] spFU f3 fd3) :
    FnOk P w K mg base CX0 2 f fd ["one", "other"] spUn := by
  refine F.ok scUn (fun vs H Q E h => ?_) (fun cdv A outer s H vs Q E hr h => ?_)
  · obtain ⟨a, b, us, ws, bs, cs, rfl, _⟩ := h
    rfl
  · obtain ⟨a, b, us, ws, bs, cs, rfl, ha, hb, pb, pc, vb, vc, lb, lc, q⟩ := h
    refine ⟨_, pss_cons (by exact (ps_set (i := 2) scUn.nd rfl (.inl rfl) pe_int)) (
      pss_cons (by exact (ps_set (i := 3) scUn.nd rfl (.inl rfl) pe_int)) (
      pss_cons (by exact (ps_set (i := 4) scUn.nd rfl (.inl rfl) pe_int)) (
      pss_cons (by exact (ps_set (i := 5) scUn.nd rfl (.inl rfl) (pe_callB (call_min2 rfl) (by rfl) mM (by decide +kernel) (pa_cons (pe_call LO.ok hr rfl LO.m LO.k LO.b .nil pass0 (pa_cons (pv 0) pa_nil)) (pa_cons (pe_call LO.ok hr rfl LO.m LO.k LO.b .nil pass0 (pa_cons (pv 1) pa_nil)) pa_nil))))) (
      pss_cons (by exact (ps_set (i := 6) scUn.nd rfl (.inl rfl) (pe_call EN.ok hr rfl EN.m EN.k EN.b .nil pass0 (pa_cons (pv 0) pa_nil)))) (
      pss_cons (by exact (ps_set (i := 7) scUn.nd rfl (.inl rfl) (pe_call EN.ok hr rfl EN.m EN.k EN.b .nil pass0 (pa_cons (pv 1) pa_nil)))) (
      pss_cons (by exact (ps_while PassesOwn.never (pt_cmpR op_lt (pv 2) (pv 5) (nomark _)) (pss_cons (by exact (ps_set (i := 8) scUn.nd rfl (.inl rfl) (pe_ix ix_tup (pe_ix ix_tup (pv 0) (pv 3) (fun _ _ => rfl)) pe_int (fun _ _ => rfl)))) (
      pss_cons (by exact (ps_set (i := 9) scUn.nd rfl (.inl rfl) (pe_ix ix_tup (pe_ix ix_tup (pv 1) (pv 4) (fun _ _ => rfl)) pe_int (fun _ _ => rfl)))) (
      pss_cons (by exact (ps_set (i := 10) scUn.nd rfl (.inl rfl) (pe_callB (call_min2 rfl) (by rfl) mM (by decide +kernel) (pa_cons (pe_ix ix_list (pv 6) (pv 3) (fun _ _ => rfl)) (pa_cons (pe_ix ix_list (pv 7) (pv 4) (fun _ _ => rfl)) pa_nil))))) (
      pss_cons (by exact (ps_set (i := 11) scUn.nd rfl (.inl rfl) (pe_callB (call_min2 rfl) (by rfl) mM (by decide +kernel) (pa_cons (pe_op op_sub (pv 10) (pv 2)) (pa_cons (pe_op op_add (pe_callB call_len_seq (by rfl) mL PySem.boot_len (pa_cons (pv 8) pa_nil)) (pe_callB call_len_seq (by rfl) mL PySem.boot_len (pa_cons (pv 9) pa_nil))) pa_nil))))) (
      pss_cons (by exact (ps_set (i := 12) scUn.nd rfl (.inl rfl) (pe_op op_add (pe_op op_sub (pv 2) (pe_ix ix_list (pv 6) (pv 3) (fun _ _ => rfl))) (pe_op op_mulW (pe_callB call_len_seq (by rfl) mL PySem.boot_len (pa_cons (pv 8) pa_nil)) (pe_ix ix_tup (pe_ix ix_tup (pv 0) (pv 3) (fun _ _ => rfl)) pe_int (fun _ _ => rfl)))))) (
      pss_cons (by exact (ps_set (i := 13) scUn.nd rfl (.inl rfl) (pe_op op_add (pe_op op_sub (pv 2) (pe_ix ix_list (pv 7) (pv 4) (fun _ _ => rfl))) (pe_op op_mulW (pe_callB call_len_seq (by rfl) mL PySem.boot_len (pa_cons (pv 9) pa_nil)) (pe_ix ix_tup (pe_ix ix_tup (pv 1) (pv 4) (fun _ _ => rfl)) pe_int (fun _ _ => rfl)))))) (
      pss_cons (by exact (ps_set (i := 14) scUn.nd rfl (.inl rfl) (pe_call FU.ok hr rfl FU.m FU.k FU.b .nil pass0 (pa_cons (pv 8) (pa_cons (pv 9) (pa_cons (pv 12) (pa_cons (pv 13) (pa_cons (pv 11) pa_nil)))))))) (
      pss_cons (by exact (ps_if (pt_cmpR op_lt (pv 14) (pv 11) (nomark _)) (pss_one (by exact (ps_ret (pe_op op_add (pv 2) (pv 14))))) pss_nil)) (
      pss_cons (by exact (ps_set (i := 3) scUn.nd rfl (.inl rfl) (pe_op op_add (pv 3) (pe_ifExp (pt_cmpR op_eq (pe_ix ix_list (pv 6) (pv 3) (fun _ _ => rfl)) (pv 10) (nomark _)) pe_int pe_int)))) (
      pss_cons (by exact (ps_set (i := 4) scUn.nd rfl (.inl rfl) (pe_op op_add (pv 4) (pe_ifExp (pt_cmpR op_eq (pe_ix ix_list (pv 7) (pv 4) (fun _ _ => rfl)) (pv 10) (nomark _)) pe_int pe_int)))) (
      pss_one (by exact (ps_set (i := 2) scUn.nd rfl (.inl rfl) (pv 10)))))))))))))))) (
      pss_one (by exact (ps_ret (pe_ifExp (pt_cmpR op_eq (pe_call LO.ok hr rfl LO.m LO.k LO.b .nil pass0 (pa_cons (pv 0) pa_nil)) (pe_call LO.ok hr rfl LO.m LO.k LO.b .nil pass0 (pa_cons (pv 1) pa_nil)) (nomark _)) pe_non (pv 5))))))))))), ?_⟩
    refine ⟨_, rfl, a, us, bs, rfl, ha, pb, vb, lb, fun H1 s1 => ⟨_, rfl, b, ws, cs, rfl, s1 _ _ hb, bkT_same s1 pc, vc, lc, fun H2 s2 => ?_⟩⟩
    have s12 := s1.trans s2
    refine ⟨_, _, rfl, ?_⟩
    refine ⟨_, rfl, a, us, bs, rfl, s12 _ _ ha, bkT_same s12 pb, vb, lb, fun L1 H3 hL1 s3 => ?_⟩
    have s13 := s12.trans s3
    refine ⟨_, rfl, b, ws, cs, rfl, s13 _ _ hb, bkT_same s13 pc, vc, lc, fun L2 H4 hL2 s4 => ?_⟩
    have s14 := s13.trans s4
    have hL1 := s4 _ _ hL1
    refine while_by (UnI bs cs a b L1 L2 H4)
      (fun σ _ => match (σ[2]? : Option (Option V)) with
        | some (some (V.int i)) => (((min (wr bs).length (wr cs).length : Nat) : Int) - i).toNat
        | _ => 0) ⟨0, 0, 0, _, _, _, _, none, none, none, none, none, none, none, rfl, rfl, rfl, rfl, ?_, fun _ _ e => e, At.zero vb, At.zero vc, fun m hm => absurd hm (Nat.not_lt_zero _), Nat.zero_le _⟩ (fun σ X pw => ?_) ?_
    · by_cases c : ((wr cs).length : Int) < ((wr bs).length : Int)
      · rw [if_pos c]
        omega
      · rw [if_neg c]
        omega
    · obtain ⟨st, a', p, zs, za, zp, e, x8, x9, x10, x11, x12, x13, x14, rfl, ezs, eza, ezp, ee, sX, A1, A2, eq, le⟩ := pw
      have s15 := s14.trans sX
      refine ⟨_, rfl, _, rfl, _, _, rfl, rfl, _, rfl, ?_⟩
      by_cases c : zs < e
      · rw [decide_eq_true c]
        refine iteT ?_
        have lt : st < min (wr bs).length (wr cs).length := by omega
        obtain ⟨ia, ea⟩ := A1.hi (by omega)
        obtain ⟨ip, ep⟩ := A2.hi (by omega)
        have gb : bs[a']? = some bs[a'] := List.getElem?_eq_getElem ia
        have gc : cs[p]? = some cs[p] := List.getElem?_eq_getElem ip
        have wa := wr_take gb
        have wp := wr_take gc
        have va := vb _ (List.getElem_mem ia)
        have vp := vc _ (List.getElem_mem ip)
        have ga : ∀ n, st + n < (wr (bs.take (a' + 1))).length → _ := fun n hn => A1.get gb hn
        have gp : ∀ n, st + n < (wr (cs.take (p + 1))).length → _ := fun n hn => A2.get gc hn
        obtain ⟨v1, hv1, t1, r1, rfl, h1, k1⟩ := pair_at2 pb gb
        obtain ⟨v2, hv2, t2, r2, rfl, h2, k2⟩ := pair_at2 pc gc
        have h1 := s15 _ _ h1
        have k1 := s15 _ _ k1
        have h2 := s15 _ _ h2
        have k2 := s15 _ _ k2
        have atA : atI us za = some (.ref t1) := by rw [eza]; exact atI_nat hv1
        have atP : atI ws zp = some (.ref t2) := by rw [ezp]; exact atI_nat hv2
        have atE : atI ((endsOf bs).map V.int) za = some (.int ((wr (bs.take (a' + 1))).length : Int)) := by rw [eza]; exact atI_nat (by rw [List.getElem?_map, endsOf_at ia]; rfl)
        have atF : atI ((endsOf cs).map V.int) zp = some (.int ((wr (cs.take (p + 1))).length : Int)) := by rw [ezp]; exact atI_nat (by rw [List.getElem?_map, endsOf_at ip]; rfl)
        have hA := s15 _ _ ha
        have hB := s15 _ _ hb
        have hM := sX _ _ hL1
        have hN := sX _ _ hL2
        have le1 : (((bs[a'].1.map V.str).length : Nat) : Int) = (bs[a'].1.length : Int) := by rw [List.length_map]
        have le2 : (((cs[p].1.map V.str).length : Nat) : Int) = (cs[p].1.length : Int) := by rw [List.length_map]
        have lo1 := A1.lo
        have lo2 := A2.lo
        refine ⟨_, rfl, _, rfl, a, us, _, _, rfl, rfl, SqT.of hA, atA, t1, _, _, .ref r1, rfl, rfl, SqT.of h1, atI_nat (j := 0) rfl, ?_⟩
        refine ⟨_, rfl, _, rfl, b, ws, _, _, rfl, rfl, SqT.of hB, atP, t2, _, _, .ref r2, rfl, rfl, SqT.of h2, atI_nat (j := 0) rfl, ?_⟩
        refine ⟨_, rfl, _, rfl, L1, _, _, _, rfl, rfl, SqL.of hM, atE, _, rfl, _, rfl, L2, _, _, _, rfl, rfl, SqL.of hN, atF, _, _, rfl, ?_⟩
        refine ⟨_, rfl, _, rfl, _, _, rfl, rfl, _, rfl, r1, _, rfl, .inr (SqT.of k1), _, rfl, r2, _, rfl, .inr (SqT.of k2), _, _, rfl, rfl, _, _, rfl, ?_⟩
        refine ⟨_, rfl, _, rfl, _, rfl, L1, _, _, _, rfl, rfl, SqL.of hM, atE, _, _, rfl, rfl, _, rfl, r1, _, rfl, .inr (SqT.of k1), _, rfl, _, rfl, a, us, _, _, rfl, rfl, SqT.of hA, atA, t1, _, _, _, rfl, rfl, SqT.of h1, atI_nat (j := 1) rfl, _, _, rfl, rfl, wide_mul (by rw [le1]; exact rows_small va.l4) (times_small va.t30) (by decide) (by decide) (by decide), _, _, rfl, rfl, ?_⟩
        refine ⟨_, rfl, _, rfl, _, rfl, L2, _, _, _, rfl, rfl, SqL.of hN, atF, _, _, rfl, rfl, _, rfl, r2, _, rfl, .inr (SqT.of k2), _, rfl, _, rfl, b, ws, _, _, rfl, rfl, SqT.of hB, atP, t2, _, _, _, rfl, rfl, SqT.of h2, atI_nat (j := 1) rfl, _, _, rfl, rfl, wide_mul (by rw [le2]; exact rows_small vp.l4) (times_small vp.t30) (by decide) (by decide) (by decide), _, _, rfl, rfl, ?_⟩
        have wai : ((wr (bs.take (a' + 1))).length : Int) = ((wr (bs.take a')).length : Int) + (bs[a'].1.length : Int) * (bs[a'].2 : Int) := by rw [wa, Int.natCast_add, Int.natCast_mul]
        have wpi : ((wr (cs.take (p + 1))).length : Int) = ((wr (cs.take p)).length : Int) + (cs[p].1.length : Int) * (cs[p].2 : Int) := by rw [wp, Int.natCast_add, Int.natCast_mul]
        generalize hu : min (wr (bs.take (a' + 1))).length (wr (cs.take (p + 1))).length = u
        generalize hm : min (u - st) (bs[a'].1.length + cs[p].1.length) = m
        have r4 := va.l4
        have q4 := vp.l4
        have m8 : m ≤ 1000 := by omega
        have eu : (if ((wr (cs.take (p + 1))).length : Int) < ((wr (bs.take (a' + 1))).length : Int) then ((wr (cs.take (p + 1))).length : Int) else ((wr (bs.take (a' + 1))).length : Int)) = (u : Int) := by
          split <;> omega
        have em : (if (((bs[a'].1.map V.str).length : Nat) : Int) + (((cs[p].1.map V.str).length : Nat) : Int) < (if ((wr (cs.take (p + 1))).length : Int) < ((wr (bs.take (a' + 1))).length : Int) then ((wr (cs.take (p + 1))).length : Int) else ((wr (bs.take (a' + 1))).length : Int)) - zs then (((bs[a'].1.map V.str).length : Nat) : Int) + (((cs[p].1.map V.str).length : Nat) : Int) else (if ((wr (cs.take (p + 1))).length : Int) < ((wr (bs.take (a' + 1))).length : Int) then ((wr (cs.take (p + 1))).length : Int) else ((wr (bs.take (a' + 1))).length : Int)) - zs) = (m : Int) := by
          rw [eu, le1, le2, ezs]
          split <;> omega
        refine ⟨_, rfl, _, rfl, _, rfl, _, rfl, _, rfl, r1, r2, bs[a'].1, cs[p].1, st - (wr (bs.take a')).length, st - (wr (cs.take p)).length, m, args5 ?_ ?_ em, k1, k2, va.l1, vp.l1, m8, fun k hk heq hne => ?_⟩
        · rw [le1, ezs, wai]
          omega
        · rw [le2, ezs, wpi]
          omega
        refine ⟨_, rfl, _, rfl, _, _, rfl, rfl, _, rfl, ite_lt em (fun c2 => ?_) (fun c2 => ?_)⟩
        · refine ⟨_, rfl, _, rfl, _, _, rfl, rfl, ?_⟩
          have e3 : zs + (k : Int) = ((st + k : Nat) : Int) := by omega
          show Q (.int (zs + (k : Int))) X
          rw [e3]
          refine q (some (st + k)) X ⟨fun z => ?_, fun n hn => ?_⟩ s15
          · rw [ga k (by omega), gp k (by omega)] at z
            exact hne c2 z
          · by_cases d : n < st
            · exact eq n d
            · have en : n = st + (n - st) := by omega
              rw [en, ga (n - st) (by omega), gp (n - st) (by omega)]
              exact heq (n - st) (by omega)
        have all : ∀ n, st + n < u → (wr bs)[st + n]? = (wr cs)[st + n]? := fun n hn => by
          rw [ga n (by omega), gp n (by omega)]
          by_cases d : n < m
          · exact heq n (by omega)
          · exact rows_alike va.l1 vp.l1 (many := m) (by omega) (fun j hj => heq j (by omega)) n
        have eq2 : ∀ n, n < u → (wr bs)[n]? = (wr cs)[n]? := fun n hn => by
          by_cases d : n < st
          · exact eq n d
          · have en : n = st + (n - st) := by omega
            rw [en]
            exact all (n - st) (by omega)
        have tl1 := take_le (bs := bs) (a' + 1)
        have tl2 := take_le (bs := cs) (p + 1)
        have fin : ∀ (a2 p2 : Nat) (za2 zp2 zu : Int) (y8 y9 y10 y11 y12 y13 y14 : Option V), za2 = (a2 : Int) → zp2 = (p2 : Int) → zu = (u : Int) → At bs a2 u → At cs p2 u → UnI bs cs a b L1 L2 H4 [some (.ref a), some (.ref b), some (.int zu), some (.int za2), some (.int zp2), some (.int e), some (.ref L1), some (.ref L2), y8, y9, y10, y11, y12, y13, y14] X ∧ (((min (wr bs).length (wr cs).length : Nat) : Int) - zu).toNat < (((min (wr bs).length (wr cs).length : Nat) : Int) - zs).toNat :=
          fun a2 p2 za2 zp2 zu y8 y9 y10 y11 y12 y13 y14 h1 h2 h3 h4 h5 => ⟨⟨u, a2, p2, zu, za2, zp2, e, y8, y9, y10, y11, y12, y13, y14, rfl, h3, h1, h2, ee, sX, h4, h5, eq2, by omega⟩, by omega⟩
        refine ⟨_, rfl, _, rfl, _, rfl, L1, _, _, _, rfl, rfl, SqL.of hM, atE, _, rfl, rfl, _, rfl, ite_eqI (fun d1 => ?_) (fun d1 => ?_)⟩
        · have n1 := At.next vb ia (show _ = u by rw [eu] at d1; omega)
          refine ⟨_, _, rfl, rfl, _, rfl, _, rfl, _, rfl, L2, _, _, _, rfl, rfl, SqL.of hN, atF, _, rfl, rfl, _, rfl, ite_eqI (fun d2 => ?_) (fun d2 => ?_)⟩
          · have n2 := At.next vc ip (show _ = u by rw [eu] at d2; omega)
            exact ⟨_, _, rfl, rfl, _, rfl, fin (a' + 1) (p + 1) _ _ _ _ _ _ _ _ _ _ (by omega) (by omega) eu n1 n2⟩
          · have n2 := A2.stay (u := u) ip (by omega) (by rw [eu] at d2; omega)
            exact ⟨_, _, rfl, rfl, _, rfl, fin (a' + 1) p _ _ _ _ _ _ _ _ _ _ (by omega) (by omega) eu n1 n2⟩
        · have n1 := A1.stay (u := u) ia (by omega) (by rw [eu] at d1; omega)
          refine ⟨_, _, rfl, rfl, _, rfl, _, rfl, _, rfl, L2, _, _, _, rfl, rfl, SqL.of hN, atF, _, rfl, rfl, _, rfl, ite_eqI (fun d2 => ?_) (fun d2 => ?_)⟩
          · have n2 := At.next vc ip (show _ = u by rw [eu] at d2; omega)
            exact ⟨_, _, rfl, rfl, _, rfl, fin a' (p + 1) _ _ _ _ _ _ _ _ _ _ (by omega) (by omega) eu n1 n2⟩
          · have n2 := A2.stay (u := u) ip (by omega) (by rw [eu] at d2; omega)
            exact ⟨_, _, rfl, rfl, _, rfl, fin a' p _ _ _ _ _ _ _ _ _ _ (by omega) (by omega) eu n1 n2⟩
      · rw [decide_eq_false c]
        refine iteF ?_
        have e2 : st = min (wr bs).length (wr cs).length := by omega
        refine ⟨_, rfl, a, us, bs, rfl, s15 _ _ ha, bkT_same s15 pb, vb, lb, fun H5 s5 => ?_⟩
        have s16 := s15.trans s5
        refine ⟨_, rfl, b, ws, cs, rfl, s16 _ _ hb, bkT_same s16 pc, vc, lc, fun H6 s6 => ?_⟩
        have s17 := s16.trans s6
        refine ⟨rfl, _, rfl, ?_⟩
        have z := isU_end (fun m hm => eq m (by omega))
        by_cases d : (wr bs).length = (wr cs).length
        · rw [if_pos d] at z
          rw [decide_eq_true (show V.int ((wr bs).length : Int) = V.int ((wr cs).length : Int) by rw [d])]
          exact iteT (q none H6 z s17)
        · rw [if_neg d] at z
          rw [decide_eq_false (fun y => d (by injection y with y; omega))]
          refine iteF ⟨_, rfl, ?_⟩
          rw [ee]
          exact q _ H6 z s17
    · intro σ H Q Q' h
      rintro ⟨x, h1, y, h2, i, j, e1, e2, b, e3, h3⟩
      exact ⟨x, h1, y, h2, i, j, e1, e2, b, e3, h _ _ h3⟩
end
end LA
end
section
set_option Elab.async false
set_option linter.all false
set_option maxRecDepth 100000
set_option maxHeartbeats 4100000
namespace LA
open PySem L2 XS XT LM
/-- the def at place j of the class at place i -/
def cb (i j : Nat) : Stmt := match top i with
  | .ClassDef (body := b) .. => b.getD j (.Pass ⟨0, 0, 0, 0⟩)
  | _ => .Pass ⟨0, 0, 0, 0⟩
abbrev sLI : Stmt := cb 26 0
abbrev sLof : Stmt := cb 26 1
abbrev sLlen : Stmt := cb 26 2
abbrev sLblk : Stmt := cb 26 3
abbrev sLdif : Stmt := cb 26 6
abbrev sLadd : Stmt := cb 26 7
abbrev sLeq : Stmt := cb 26 8
/-- the class of long texts -/
structure KLg (K : PySem.W.Frag) (C : Addr) : Prop where
  cls : Cls K C
  no : NoAttr K C "_blocks"
  cl : PySem.W.findIn K (.ref C) "__class__" = some (some (.builtin "object.__class__"))
  get : PySem.W.specialIn K (.builtin "object.__class__") "__get__" = some (some (.builtin "getset_descriptor.__get__"))
  tak : PySem.W.takesIn K (.builtin "object.__class__") = some true
  obj : PySem.W.mroIn K C (.type "object") = some true
  kit : PySem.W.kitOne K (.ref C) (.ref C) = some true
/-- the program's long text with these blocks -/
def LT (C : Addr) (H : Hp) (bs : List (Bk Str)) (v : V) : Prop := ∃ (a dx t : Addr) (us : List V), v = .ref a ∧ H a = some (.ins C dx [("_blocks", .ref t)]) ∧ H t = some (.tup us) ∧ Paired (fun b v => BkT H b v) bs us
theorem LT.same {C : Addr} {H H' : Hp} (s : Same H H') {bs : List (Bk Str)} {v : V} (h : LT C H bs v) : LT C H' bs v := by
  obtain ⟨a, dx, t, us, e, h1, h2, h3⟩ := h
  exact ⟨a, dx, t, us, e, s _ _ h1, s _ _ h2, bkT_same s h3⟩
theorem look0 {k : Str} {v : V} : [(k, v)].lookup k = some v := by
  rw [List.lookup_cons_self]
/-- right blocks, not too many of them -/
structure Rb (bs : List (Bk Str)) : Prop where
  ok : ∀ b ∈ bs, Vb b
  few : bs.length ≤ 100
section
variable {P : Program} {w : World} {K : PySem.W.Frag} {mg : Str → Option Value} {base : Heap} {C : Addr}
def spBlks (C : Addr) : Sp := fun vs H Q _ => ∃ (a dx : Addr) (v : V), vs = [.ref a] ∧ H a = some (.ins C dx [("_blocks", v)]) ∧ Q v H
theorem scLb : FnScope ["self"] ["self"] (defScope sLblk) := ⟨rfl, rfl, rfl, by decide +kernel, rfl, by decide +kernel, by decide +kernel⟩
theorem ok_blks {f : Addr} {fd : FuncData} (F : Fun K "blocks" "LongText.blocks" sLblk f fd) (T : KLg K C) : FnOk P w K mg base CX0 1 f fd ["self"] (spBlks C) := by
  refine F.ok scLb (fun vs H Q E h => ?_) (fun cdv A outer s H vs Q E hr h => ?_)
  · obtain ⟨a, dx, v, rfl, _⟩ := h
    rfl
  · obtain ⟨a, dx, v, rfl, ha, q⟩ := h
    refine ⟨_, pss_one (by exact (ps_ret (pe_fld (pv 0) rfl))), ?_⟩
    exact ⟨_, rfl, a, C, dx, _, v, rfl, ha, T.cls, T.no, look0, q⟩
def spLLen (C : Addr) : Sp := fun vs H Q _ => ∃ (bs : List (Bk Str)) (v : V), vs = [v] ∧ LT C H bs v ∧ Rb bs ∧ ∀ H', Same H H' → Q (.int ((wr bs).length : Int)) H'
theorem scLl : FnScope ["self"] ["self"] (defScope sLlen) := ⟨rfl, rfl, rfl, by decide +kernel, rfl, by decide +kernel, by decide +kernel⟩
theorem ok_llen {f f1 : Addr} {fd fd1 : FuncData} (F : Fun K "length" "LongText.length" sLlen f fd) (T : KLg K C) (LO : CallOf P w K mg base 1 "length_of" ["blocks"] spLenOf f1 fd1) : FnOk P w K mg base CX0 2 f fd ["self"] (spLLen C) := by
  refine F.ok scLl (fun vs H Q E h => ?_) (fun cdv A outer s H vs Q E hr h => ?_)
  · obtain ⟨bs, v, rfl, _⟩ := h
    rfl
  · obtain ⟨bs, v, rfl, ⟨a, dx, t, us, rfl, ha, ht, pr⟩, rb, q⟩ := h
    refine ⟨_, pss_one (by exact (ps_ret (pe_call LO.ok hr rfl LO.m LO.k LO.b .nil pass0 (pa_cons (pe_fld (pv 0) rfl) pa_nil)))), ?_⟩
    exact ⟨_, rfl, a, C, dx, _, _, rfl, ha, T.cls, T.no, look0, t, us, bs, rfl, ht, pr, rb.ok, by have := rb.few; omega, q⟩
/-- what difference tells -/
def upN : Option Nat → Option Nat := Option.map (· + 1)
def spDiff (C : Addr) : Sp := fun vs H Q _ => ∃ (bs cs : List (Bk Str)) (v u : V), vs = [v, u] ∧ LT C H bs v ∧ LT C H cs u ∧ Rb bs ∧ Rb cs ∧ ∀ r H', IsU (wr bs) (wr cs) r → Same H H' → Q (unV (upN r)) H'
theorem scLd : FnScope ["self", "other", "index"] ["self", "other"] (defScope sLdif) := ⟨rfl, rfl, rfl, by decide +kernel, rfl, by decide +kernel, by decide +kernel⟩
theorem ok_diff {f f1 f2 p2 : Addr} {fd fd1 fd2 : FuncData} (F : Fun K "difference" "LongText.difference" sLdif f fd) (T : KLg K C) (UN : CallOf P w K mg base 2 "unlike_index" ["one", "other"] spUn f1 fd1)
    (PB : PropOf K C "blocks" p2 f2) (BL : FnOk P w K mg base CX0 1 f2 fd2 ["self"] (spBlks C)) (bB : Binds K fd2 ["self"] []) : FnOk P w K mg base CX0 3 f fd ["self", "other"] (spDiff C) := by
  refine F.ok scLd (fun vs H Q E h => ?_) (fun cdv A outer s H vs Q E hr h => ?_)
  · obtain ⟨bs, cs, v, u, rfl, _⟩ := h
    rfl
  · obtain ⟨bs, cs, v, u, rfl, ⟨a, dx, t, us, rfl, ha, ht, pr⟩, ⟨b, dy, t2, us2, rfl, hb, ht2, pr2⟩, rb, rc, q⟩ := h
    refine ⟨_, pss_cons (by exact (ps_set (i := 2) scLd.nd rfl (.inl rfl) (pe_call UN.ok hr rfl UN.m UN.k UN.b .nil pass0 (pa_cons (pe_fld (pv 0) rfl) (pa_cons (pe_prop (pv 1) T.cls PB BL hr bB .nil pass0 rfl) pa_nil))))) (
      pss_one (by exact (ps_ret (pe_ifExp (pt_cmpR op_isN (pv 2) pe_non (nomark _)) pe_non (pe_op op_add (pv 2) pe_int))))), ?_⟩
    refine ⟨_, rfl, a, C, dx, _, _, rfl, ha, T.cls, T.no, look0, _, rfl, b, dy, _, rfl, hb, b, dy, _, rfl, hb, t, t2, us, us2, bs, cs, rfl, ht, ht2, pr, pr2, rb.ok, rc.ok, by have := rb.few; omega, by have := rc.few; omega, fun r H' iu sm => ?_⟩
    refine ⟨_, rfl, rfl, ?_⟩
    cases r with
    | none => exact ⟨_, rfl, iteT (q none H' iu sm)⟩
    | some n =>
      refine ⟨_, rfl, iteF ⟨_, rfl, _, _, rfl, rfl, ?_⟩⟩
      have e : (n : Int) + 1 = ((n + 1 : Nat) : Int) := by omega
      show Q (.int ((n : Int) + 1)) H'
      rw [e]
      exact q (some n) H' iu sm
/-- == -/
def spLEq (K : PySem.W.Frag) (C : Addr) : Sp := fun vs H Q _ => ∃ (bs : List (Bk Str)) (v y : V), vs = [v, y] ∧ LT C H bs v ∧ ((∃ t, TyX K H y t ∧ PySem.W.kitOne K t (.ref C) = some false ∧ Q (.bl false) H) ∨
  ∃ cs, LT C H cs y ∧ Rb bs ∧ Rb cs ∧ ∀ r H', IsU (wr bs) (wr cs) r → Same H H' → Q (.bl r.isNone) H')
theorem LT.ty {H : Hp} (T : KLg K C) {bs : List (Bk Str)} {v : V} (h : LT C H bs v) : TyX K H v (.ref C) := by
  obtain ⟨a, dx, t, us, rfl, ha, _⟩ := h
  exact .base (.ins ha T.cls T.cl T.get T.tak T.obj)
theorem scLe2 : FnScope ["self", "other"] ["self", "other"] (defScope sLeq) := ⟨rfl, rfl, rfl, by decide +kernel, rfl, by decide +kernel, by decide +kernel⟩
theorem ok_leq {f f1 : Addr} {fd fd1 : FuncData} (F : Fun K "__eq__" "LongText.__eq__" sLeq f fd) (T : KLg K C) (isM : mg "isinstance" = none) (mC : mg "LongText" = some (.ref C)) (UN : CallOf P w K mg base 2 "unlike_index" ["one", "other"] spUn f1 fd1) : FnOk P w K mg base CX0 3 f fd ["self", "other"] (spLEq K C) := by
  refine F.ok scLe2 (fun vs H Q E h => ?_) (fun cdv A outer s H vs Q E hr h => ?_)
  · obtain ⟨bs, v, y, rfl, _⟩ := h
    rfl
  · obtain ⟨bs, v, y, rfl, lt, alt⟩ := h
    refine ⟨_, pss_one (by exact (ps_ret (pe_and (pe_callB call_isi (by rfl) isM (by decide +kernel) (pa_cons (pv 1) (pa_cons (pe_glob (v := .ref C) rfl mC rfl) pa_nil))) (pe_one (pe_cmpR op_isN (pe_call UN.ok hr rfl UN.m UN.k UN.b .nil pass0 (pa_cons (pe_fld (pv 0) rfl) (pa_cons (pe_fld (pv 1) rfl) pa_nil))) pe_non (nomark _)))))), ?_⟩
    rcases alt with ⟨t, ty, no, q⟩ | ⟨cs, lc, rb, rc, q⟩
    · exact ⟨_, rfl, _, _, _, _, _, rfl, .own C, ty, no, _, rfl, iteF q⟩
    · have ty := lc.ty T
      obtain ⟨a, dx, t, us, rfl, ha, ht, pr⟩ := lt
      obtain ⟨b, dy, t2, us2, rfl, hb, ht2, pr2⟩ := lc
      refine ⟨_, rfl, _, _, _, _, _, rfl, .own C, ty, T.kit, _, rfl, iteT ?_⟩
      refine ⟨_, rfl, a, C, dx, _, _, rfl, ha, T.cls, T.no, look0, _, rfl, b, C, dy, _, _, rfl, hb, T.cls, T.no, look0, t, t2, us, us2, bs, cs, rfl, ht, ht2, pr, pr2, rb.ok, rc.ok, by have := rb.few; omega, by have := rc.few; omega, fun r H' iu sm => ?_⟩
      refine ⟨rfl, ?_⟩
      have z := q r H' iu sm
      cases r with
      | none => exact z
      | some n => exact z
end
end LA
end
section
set_option Elab.async false
set_option linter.all false
set_option maxRecDepth 100000
set_option maxHeartbeats 4100000
namespace LA
open PySem L2 XS XT LM StX PyProof.Rows
theorem But.same_put {a : Addr} {H H' : Hp} {o : HO} (s : Same H H') : But a H (upd H' a o) := fun b u e n => by
  rw [upd_ne n]
  exact s b u e
theorem BkT.but {d : Addr} {H H' : Hp} (nd : ∀ xs, H d ≠ some (.tup xs)) (k : But d H H') {b : Bk Str} {v : V} (h : BkT H b v) : BkT H' b v := by
  obtain ⟨t, a, e, h1, h2⟩ := h
  exact ⟨t, a, e, k _ _ h1 (fun z => nd _ (z ▸ h1)), k _ _ h2 (fun z => nd _ (z ▸ h2))⟩
theorem bkL_same {H H' : Hp} (s : Same H H') {bs : List (Bk Str)} {us : List V} (p : Paired (fun b v => BkL H b v) bs us) : Paired (fun b v => BkL H' b v) bs us := pair_same (fun _ _ _ _ s h => h.same s) s p
/-- LongText.__init__, with its keyword's default in the dict at D -/
structure FunV (K : PySem.W.Frag) (f D : Addr) : Prop where
  ex : ∃ (oc : Value) (od : Option Addr) (doc pm : Value) (an : Option Addr) (cdv ct : Value) (osl : Array (Option Value)), K.lookup f = some ⟨oc, od, .func (PySem.W.fnOf "__init__" "LongText.__init__" (defArgs sLI) (defBody sLI) (defScope sLI) .none (.ref D) doc pm an cdv ct), osl⟩ ∧ PySem.W.codeIn K cdv "LongText.__init__" = true
  dd : PySem.W.nsIn K D "_blocks" = some (some .none)
theorem scLI : FnScope ["self", "_blocks", "blocks", "index", "value", "lines", "times"] ["self", "_blocks", "blocks"] (defScope sLI) := ⟨rfl, rfl, rfl, by decide +kernel, rfl, by decide +kernel, by decide +kernel⟩
section
variable {P : Program} {w : World} {K : PySem.W.Frag} {mg : Str → Option Value} {base : Heap} {C : Addr}
/-- what the body of __init__ is told -/
def spIB (C : Addr) : Sp := fun vs H Q _ => ∃ (a dx p : Addr) (v : V), vs = [.ref a, v, .ref p] ∧ H a = some (.ins C dx []) ∧
  ((v = .non ∧ ∃ us bs, H p = some (.tup us) ∧ Paired (fun b v => BkL H b v) bs us ∧ (∀ b ∈ bs, Vb b) ∧ bs.length ≤ 10 ∧ ∀ (t : Addr) (ws : List V) (H' : Hp), H' a = some (.ins C dx [("_blocks", .ref t)]) → H' t = some (.tup ws) → Paired (fun b v => BkT H' b v) bs ws → But a H H' → Q .non H') ∨
   (∃ t, v = .ref t ∧ H p = some (.tup []) ∧ ∀ H', H' a = some (.ins C dx [("_blocks", v)]) → But a H H' → Q .non H'))
def teLI (K : PySem.W.Frag) : TE := tTup (tCons (tThen (tVar 5) (kTup K)) (tCons (tVar 6) tNil))
theorem body_LI {f : Addr} {cdv : Value} {A : Around} {outer : List Env} {s : Shared} {H : Hp} {vs : List V} {Q : VK} {E : XK} {f1 : Addr} {fd1 : FuncData} {tk1 : Tok} (T : KLg K C) (mE : mg "enumerate" = none) (mL : mg "len" = none) (mT : mg "tuple" = none) (m10 : mg "MAX_BLOCKS" = some (.int 10 tk1)) (IB : CallOf P w K mg base 4 "is_block" ["value"] spIsBlk f1 fd1)
    (hr : Room 4 (A.deeper (envOfC "LongText.__init__" (defScope sLI) s.heap.objs.size f cdv))) (h : spIB C vs H Q E) :
    ∃ t, PSs (cxOf CX0 P w K mg base ["self", "_blocks", "blocks", "index", "value", "lines", "times"] "LongText.__init__" (defScope sLI) f cdv A outer s H E) (defBody sLI) t ∧ t { nx := fun _ H' => Q .non H', rt := Q } (start ["self", "_blocks", "blocks", "index", "value", "lines", "times"] vs) H := by
  have k : ∃ t, PSs (cxOf CX0 P w K mg base ["self", "_blocks", "blocks", "index", "value", "lines", "times"] "LongText.__init__" (defScope sLI) f cdv A outer s H E).nox (defBody sLI) t ∧ t { nx := fun _ H' => Q .non H', rt := Q } (start ["self", "_blocks", "blocks", "index", "value", "lines", "times"] vs) H := by
    obtain ⟨a, dx, p, v, rfl, ha, alt⟩ := h
    refine ⟨_, pss_cons (by exact (ps_for PassesOwn.never rfl (XE.pi_enumT rfl mE (pa_cons (pv 2) pa_nil)) (pg_tup rfl (pgs_cons (by exact (pg_name (i := 3) scLI.nd rfl (Or.inl rfl))) (pgs_cons (by exact (pg_name (i := 4) scLI.nd rfl (Or.inl rfl))) pgs_nil))) (
        pss_one (by exact (ps_if (pt_not (pt_val (pe_call IB.ok hr rfl IB.m IB.k IB.b .nil pass0 (pa_cons (pv 4) pa_nil)))) pss_never pss_nil))))) (
      pss_cons (by exact (ps_if (pt_cmpR op_gt (pe_callB call_len_seq (by rfl) mL PySem.boot_len (pa_cons (pv 2) pa_nil)) (pe_glob (v := .int 10) rfl m10 ⟨_, rfl⟩) (nomark _)) pss_never pss_nil)) (
      pss_one (by exact (ps_fld (pv 0) (pe_ifExp (pt_cmpR op_isN (pv 1) pe_non (nomark _)) (pe_tupleOf rfl mT (pe_lc (own := [("lines", 5), ("times", 6)]) (g := gTup K 2 (gCons (gName 5) (gCons (gName 6) gNil))) (tt := tYes) (te := teLI K) rfl scLI.nd (pi_tup (pv 2))
        (blkOk_by (N := ["self", "_blocks", "blocks", "index", "value", "lines", "times"]) (sc := defScope sLI) (by decide +kernel))
        (fun _ _ _ _ _ => by exact (pg_tup rfl (pgs_cons (by exact (pg_name (i := 5) scLI.nd rfl (Or.inl rfl))) (pgs_cons (by exact (pg_name (i := 6) scLI.nd rfl (Or.inl rfl))) pgs_nil))))
        (fun _ _ _ _ _ => by exact pts_nil)
        (fun _ _ _ _ _ => by exact (pe_tup (pa_cons (pe_tupleOf rfl mT (pv 5)) (pa_cons (pv 6) pa_nil)))))) (pv 1)) rfl)))), ?_⟩
    rcases alt with ⟨rfl, us, bs, hp, pr, vb, lb, q⟩ | ⟨t, rfl, hp, q⟩
    · refine ⟨_, rfl, p, us, rfl, SqT.of hp, for_it (XE.walk_enumT (K := K) (a := p) (xs := us)) (fun i σ X => (∃ x3 x4 x5 x6 : Option V, σ = [some (.ref a), some .non, some (.ref p), x3, x4, x5, x6]) ∧ Same H X) ⟨⟨none, none, none, none, rfl⟩, fun _ _ e => e⟩ (fun i σ X _ pw => SqT.of (pw.2 _ _ hp)) (fun i x σ X X' hi pw yl => ?_) (fun σ X pw => ?_)⟩
      · obtain ⟨⟨x3, x4, x5, x6, rfl⟩, pS⟩ := pw
        obtain ⟨TT, u, z, rfl, nT, rfl, eu, ez⟩ := yl
        obtain ⟨b, hb, hbk⟩ := pair_at pr ez
        have sT := pS.trans (same_upd (o := .tup [u, z]) nT)
        refine ⟨TT, _, rfl, SqT.of upd_same, rfl, _, _, rfl, _, _, rfl, rfl, ?_⟩
        refine ⟨_, rfl, z, b, rfl, hbk.same sT, vb b (List.mem_of_getElem? hb), fun X2 s2 => ⟨_, rfl, iteF ?_⟩⟩
        exact ⟨⟨_, _, _, _, rfl⟩, sT.trans s2⟩
      · obtain ⟨⟨x3, x4, x5, x6, rfl⟩, pS⟩ := pw
        have hpX := pS _ _ hp
        refine ⟨_, rfl, p, us, rfl, .inr (SqT.of hpX), _, _, rfl, rfl, _, rfl, ?_⟩
        rw [decide_eq_false (show ¬ ((10 : Int) < (us.length : Int)) by rw [← pair_len pr]; omega)]
        refine iteF ?_
        refine ⟨_, rfl, rfl, _, rfl, iteT ?_⟩
        refine ⟨_, rfl, p, rfl, ⟨_, SqT.of hpX⟩, fun D nD => ?_⟩
        refine lc_it (walk_tup (K := K) (a := p) (xs := us)) (fun i Y => (∃ ws, Y D = some (.lst ws) ∧ Paired (fun b v => BkT Y b v) (bs.take i) ws) ∧ Same H Y) ⟨⟨[], upd_same, .nil⟩, pS.trans (same_upd nD)⟩ (fun i Y _ pw => SqT.of (pw.2 _ _ hp)) (fun i x Y Y' hi pw yl => ?_) (fun Y pw => ?_)
        · obtain ⟨⟨ws, pD, pp⟩, pY⟩ := pw
          obtain ⟨rfl, hx⟩ := yl
          obtain ⟨b, hb, tb, ab, rfl, h1, h2⟩ := pair_at pr hx
          have v4 := (vb b (List.mem_of_getElem? hb)).l4
          refine ⟨tb, _, rfl, SqT.of (pY _ _ h1), rfl, _, _, rfl, _, _, rfl, rfl, rfl, ?_⟩
          dsimp only [tYes]
          rw [if_pos rfl]
          refine ⟨_, rfl, .inl ⟨ab, _, rfl, SqL.of (pY _ _ h2), fun q1 n1 => ⟨_, rfl, (by show 2 ≤ sizeLine; decide), fun q2 n2 => ?_⟩⟩⟩
          have sA := same_upd (o := .tup (b.1.map V.str)) n1
          have sB := same_upd (o := .tup [.ref q1, .int (b.2 : Int)]) n2
          refine ⟨ws, sB _ _ (sA _ _ pD), ?_, ?_, ?_⟩
          · rw [← pair_len pp, List.length_take]
            exact Nat.lt_of_le_of_lt (Nat.min_le_right _ _) (Nat.lt_of_le_of_lt lb (by decide))
          · refine ⟨ws ++ [.ref q2], upd_same, ?_⟩
            rw [List.take_succ, hb]
            have bt : But D Y' (upd (upd (upd Y' q1 (.tup (b.1.map V.str))) q2 (.tup [.ref q1, .int (b.2 : Int)])) D (.lst (ws ++ [.ref q2]))) := But.same_put (sA.trans sB)
            have n2D : q2 ≠ D := (ne_of_none (sA _ _ pD) n2).symm
            have n1D : q1 ≠ D := (ne_of_none pD n1).symm
            have n12 : q1 ≠ q2 := ne_of_none upd_same n2
            exact pair_app (L2.Paired.mapP pp fun _ _ z => z.but (fun xs e => by rw [pD] at e; cases e) bt) (.cons ⟨q2, q1, rfl, by rw [upd_ne n2D]; exact upd_same, by rw [upd_ne n1D, upd_ne n12]; exact upd_same⟩ .nil)
          · intro c o e
            rw [upd_ne (ne_of_none (pS _ _ e) nD)]
            exact sB _ _ (sA _ _ (pY _ _ e))
        · obtain ⟨⟨ws, pD, pp⟩, pY⟩ := pw
          refine .inl ⟨D, ws, rfl, SqL.of pD, fun t nt => ?_⟩
          have sT := same_upd (o := .tup ws) nt
          have hY := pY _ _ ha
          refine ⟨_, rfl, a, C, dx, [], rfl, sT _ _ hY, T.cls, T.no, by decide, ?_⟩
          rw [← pair_len pr, List.take_length] at pp
          have nat : t ≠ a := (ne_of_none hY nt).symm
          refine q t ws _ upd_same (by rw [upd_ne nat]; exact upd_same) (L2.Paired.mapP pp fun _ _ z => (z.same sT).but (fun xs e => by rw [sT _ _ hY] at e; cases e) but_upd) (But.same_put (pY.trans sT))
    · refine ⟨_, rfl, p, [], rfl, SqT.of hp, for_it (XE.walk_enumT (K := K) (a := p) (xs := [])) (fun i σ X => (∃ x3 x4 x5 x6 : Option V, σ = [some (.ref a), some (.ref t), some (.ref p), x3, x4, x5, x6]) ∧ Same H X) ⟨⟨none, none, none, none, rfl⟩, fun _ _ e => e⟩ (fun i σ X _ pw => SqT.of (pw.2 _ _ hp)) (fun i x σ X X' hi pw yl => absurd hi (Nat.not_lt_zero _)) (fun σ X pw => ?_)⟩
      obtain ⟨⟨x3, x4, x5, x6, rfl⟩, pS⟩ := pw
      refine ⟨_, rfl, p, [], rfl, .inr (SqT.of (pS _ _ hp)), _, _, rfl, rfl, _, rfl, iteF ?_⟩
      refine ⟨_, rfl, rfl, _, rfl, iteF ⟨_, rfl, _, rfl, a, C, dx, [], rfl, pS _ _ ha, T.cls, T.no, by decide, ?_⟩⟩
      exact q _ upd_same (But.same_put pS)
  obtain ⟨t, h1, h2⟩ := k
  exact ⟨t, h1.nox, h2⟩
end
end LA
end
section
set_option Elab.async false
set_option linter.all false
set_option maxRecDepth 100000
set_option maxHeartbeats 4100000
namespace LA
open PySem L2 XS XT LM XV
section
variable {P : Program} {w : World} {K : PySem.W.Frag} {mg : Str → Option Value} {base : Heap} {C : Addr}
abbrev spIP (C : Addr) : List V → List V → Hp → VK → XK → Prop := fun vs _ H Q E => ∃ v0 rest, vs = v0 :: rest ∧ rest.length ≤ 1000 ∧ ∀ p, H p = none → spIB C [v0, .non, .ref p] (upd H p (.tup rest)) Q E
abbrev spIK (C : Addr) : List V → List V → Hp → VK → XK → Prop := fun vs zs H Q E => ∃ v0 y, vs = [v0] ∧ zs = [y] ∧ ∀ p, H p = none → spIB C [v0, y, .ref p] (upd H p (.tup [])) Q E
theorem ok_initP {f D f1 : Addr} {fd1 : FuncData} {tk1 : Tok} (F : FunV K f D) (T : KLg K C) (mE : mg "enumerate" = none) (mL : mg "len" = none) (mT : mg "tuple" = none) (m10 : mg "MAX_BLOCKS" = some (.int 10 tk1)) (IB : CallOf P w K mg base 4 "is_block" ["value"] spIsBlk f1 fd1) :
    FnV P w K mg base CX0 5 f [] (spIP C) := by
  obtain ⟨oc, od, doc, pm, an, cdv, ct, osl, lk, hcd⟩ := F.ex
  refine fn_vpos (d := .none) (vd := .non) lk hcd scLI StX.cxUp_none F.dd rfl (by decide) (fun u0 us hl => ?_) (fun A outer s H vs Q E hr h => body_LI T mE mL mT m10 IB hr h)
  cases us with
  | nil => exact ⟨_, _, _, _, _, _, rfl, rfl, rfl⟩
  | cons u us => exact ⟨_, _, _, _, _, _, rfl, rfl, rfl⟩
theorem ok_initK {f D f1 : Addr} {fd1 : FuncData} {tk1 : Tok} (F : FunV K f D) (T : KLg K C) (mE : mg "enumerate" = none) (mL : mg "len" = none) (mT : mg "tuple" = none) (m10 : mg "MAX_BLOCKS" = some (.int 10 tk1)) (IB : CallOf P w K mg base 4 "is_block" ["value"] spIsBlk f1 fd1) :
    FnV P w K mg base CX0 5 f ["_blocks"] (spIK C) := by
  obtain ⟨oc, od, doc, pm, an, cdv, ct, osl, lk, hcd⟩ := F.ex
  exact fn_vkey lk hcd scLI StX.cxUp_none (fun u0 d => rfl) (fun A outer s H vs Q E hr h => body_LI T mE mL mT m10 IB hr h)
/-- + -/
def spPlus (C : Addr) : Sp := fun vs H Q _ => ∃ (bs cs : List (Bk Str)) (v u : V), vs = [v, u] ∧ LT C H bs v ∧ LT C H cs u ∧ bs.length + cs.length ≤ 1000 ∧ ∀ (z : V) (H' : Hp), LT C H' (bs ++ cs) z → Same H H' → Q z H'
theorem scLa : FnScope ["self", "other"] ["self", "other"] (defScope sLadd) := ⟨rfl, rfl, rfl, by decide +kernel, rfl, by decide +kernel, by decide +kernel⟩
theorem made_of {H X : Hp} {x dx t : Addr} {bs : List (Bk Str)} {ws : List V} (s : Same H X) (nx : X x = none) (nd : X dx = none) (ht : H t = some (.tup ws)) (pr : Paired (fun b v => BkT H b v) bs ws) {p : Addr} {H' : Hp} (np : upd (upd X dx (.own x)) x (.ins C dx []) p = none) (hx : H' x = some (.ins C dx [("_blocks", .ref t)])) (b : But x (upd (upd (upd X dx (.own x)) x (.ins C dx [])) p (.tup [])) H') : LT C H' bs (.ref x) ∧ Same H H' := by
  have s2 : Same H H' := fun c o e => by
    have e2 := s _ _ e
    have n1 := ne_of_none e2 nx
    have n2 := ne_of_none e2 nd
    have e3 : upd (upd X dx (.own x)) x (.ins C dx []) c = some o := by rw [upd_ne n1, upd_ne n2]; exact e2
    refine b _ _ ?_ n1
    rw [upd_ne (ne_of_none e3 np)]
    exact e3
  exact ⟨⟨x, dx, t, ws, rfl, hx, s2 _ _ ht, bkT_same s2 pr⟩, s2⟩
theorem ok_plus {f fI f2 p2 D : Addr} {fd fd2 : FuncData} (F : Fun K "__add__" "LongText.__add__" sLadd f fd) (T : KLg K C) (mC : mg "LongText" = some (.ref C)) (M : Mk K C fI) (IK : FnV P w K mg base CX0 5 fI ["_blocks"] (spIK C))
    (PB : PropOf K C "blocks" p2 f2) (BL : FnOk P w K mg base CX0 1 f2 fd2 ["self"] (spBlks C)) (bB : Binds K fd2 ["self"] []) : FnOk P w K mg base CX0 7 f fd ["self", "other"] (spPlus C) := by
  refine F.ok scLa (fun vs H Q E h => ?_) (fun cdv A outer s H vs Q E hr h => ?_)
  · obtain ⟨bs, cs, v, u, rfl, _⟩ := h
    rfl
  · obtain ⟨bs, cs, v, u, rfl, ⟨a, dx, t, us, rfl, ha, ht, pr⟩, ⟨b, dy, t2, us2, rfl, hb, ht2, pr2⟩, few, q⟩ := h
    have hr1 : Room 2 _ := hr.mono (by decide)
    refine ⟨_, pss_one (by exact (ps_ret (pe_makeVK M IK hr rfl mC pass0 (pk_cons (pe_op op_catA (pe_fld (pv 0) rfl) (pe_prop (pv 1) T.cls PB BL hr1 bB .nil pass0 rfl)) pk_nil)))), ?_⟩
    have l1 := pair_len pr
    have l2 := pair_len pr2
    have key : ∀ (t3 : Addr) (ws : List V) (X : Hp), Same H X → X t3 = some (.tup ws) → Paired (fun b v => BkT X b v) (bs ++ cs) ws → ∀ x d, X x = none → X d = none → d ≠ x → spIK C [.ref x] [.ref t3] (upd (upd X d (.own x)) x (.ins C d [])) (fun v H3 => v = .non ∧ Q (.ref x) H3) E := by
      intro t3 ws X sX ht3 pr3 x d nx nd ne
      refine ⟨_, _, rfl, rfl, fun p np => ⟨x, d, p, _, rfl, ?_, .inr ⟨t3, rfl, upd_same, fun H' hx bt => ⟨rfl, ?_⟩⟩⟩⟩
      · rw [upd_ne (ne_of_none upd_same np)]
        exact upd_same
      · obtain ⟨lt, s2⟩ := made_of (fun _ _ e => e) nx nd ht3 pr3 np hx bt
        exact q _ _ lt (sX.trans s2)
    refine ⟨_, rfl, a, C, dx, _, _, rfl, ha, T.cls, T.no, look0, _, rfl, b, dy, _, rfl, hb, b, dy, _, rfl, hb, t, t2, us, us2, rfl, rfl, SqT.of ht, SqT.of ht2, ?_, fun e => ?_, fun e1 e2 => ?_, fun e1 e2 p np => ?_⟩
    · exact Nat.le_trans (by omega) (by decide : 1000 ≤ sizeLine)
    · subst e
      have eb : bs = [] := List.eq_nil_of_length_eq_zero l1
      subst eb
      exact ⟨rfl, key t2 us2 H (fun _ _ e => e) ht2 pr2⟩
    · subst e2
      have ec : cs = [] := List.eq_nil_of_length_eq_zero l2
      subst ec
      exact ⟨rfl, key t us H (fun _ _ e => e) ht (by rw [List.append_nil]; exact pr)⟩
    · have sP := same_upd (o := .tup (us ++ us2)) np
      exact ⟨rfl, key p (us ++ us2) _ sP upd_same (bkT_same sP (pair_app pr pr2))⟩
/-- check_text of no lines -/
def spChk : Sp := fun vs H Q _ => ∃ (a : Addr), vs = [.ref a] ∧ H a = some (.lst []) ∧ ∀ H', Same H H' → Q .non H'
theorem scCk : FnScope ["value"] ["value"] (defScope sChkT) := ⟨rfl, rfl, rfl, by decide +kernel, rfl, by decide +kernel, by decide +kernel⟩
theorem ok_chk {f f1 : Addr} {fd fd1 : FuncData} (F : Fun K "check_text" "check_text" sChkT f fd) (M : CallOf P w K mg base 3 "is_text" ["value"] spIsText f1 fd1) : FnOk P w K mg base CX0 4 f fd ["value"] spChk := by
  refine F.ok scCk (fun vs H Q E h => ?_) (fun cdv A outer s H vs Q E hr h => ?_)
  · obtain ⟨a, rfl, _⟩ := h
    rfl
  · obtain ⟨a, rfl, ha, q⟩ := h
    refine ⟨_, pss_one (by exact (ps_if (pt_not (pt_val (pe_call M.ok hr rfl M.m M.k M.b .nil pass0 (pa_cons (pv 0) pa_nil)))) pss_never pss_nil)), ?_⟩
    exact ⟨_, rfl, a, [], rfl, ha, Nat.zero_le _, fun _ h => absurd h (List.not_mem_nil), fun H' s => ⟨_, rfl, iteF (q H' s)⟩⟩
/-- LongText.of of no lines -/
def spOf (C : Addr) : Sp := fun vs H Q _ => ∃ (a : Addr), vs = [.ref C, .ref a] ∧ H a = some (.lst []) ∧ ∀ (z : V) (H' : Hp), LT C H' [] z → Same H H' → Q z H'
theorem scOf : FnScope ["cls", "text"] ["cls", "text"] (defScope sLof) := ⟨rfl, rfl, rfl, by decide +kernel, rfl, by decide +kernel, by decide +kernel⟩
theorem ok_of {f fI f1 D : Addr} {fd fd1 : FuncData} (F : Fun K "of" "LongText.of" sLof f fd) (M : Mk K C fI) (mT : mg "tuple" = none) (IK : FnV P w K mg base CX0 5 fI ["_blocks"] (spIK C)) (CK : CallOf P w K mg base 4 "check_text" ["value"] spChk f1 fd1) :
    FnOk P w K mg base CX0 7 f fd ["cls", "text"] (spOf C) := by
  refine F.ok scOf (fun vs H Q E h => ?_) (fun cdv A outer s H vs Q E hr h => ?_)
  · obtain ⟨a, rfl, _⟩ := h
    rfl
  · obtain ⟨a, rfl, ha, q⟩ := h
    have hr4 : Room 4 _ := hr.mono (by decide)
    refine ⟨_, pss_cons (by exact (ps_expr (pe_call CK.ok hr4 rfl CK.m CK.k CK.b .nil pass0 (pa_cons (pv 1) pa_nil)))) (
      pss_one (by exact (ps_ret (pe_makeVKn M IK hr (pv 0) pass0 (pk_cons (pe_ifExp (pt_truth (pv 1) (fun _ => rfl)) (pe_tup (pa_cons (pe_tup (pa_cons (pe_tupleOf rfl mT (pv 1)) (pa_cons pe_int pa_nil))) pa_nil)) (pe_tup pa_nil)) pk_nil))))), ?_⟩
    refine ⟨_, rfl, a, rfl, ha, fun H1 s1 => ⟨_, rfl, rfl, _, rfl, false, ?_, iteF ⟨(by show 0 ≤ sizeLine; decide), fun p np => ⟨rfl, fun x d nx nd ne => ?_⟩⟩⟩⟩
    · exact .inl ⟨[], SqL.of (s1 _ _ ha), rfl⟩
    · have sP := same_upd (o := .tup []) np
      refine ⟨_, _, rfl, rfl, fun p2 np2 => ⟨x, d, p2, _, rfl, ?_, .inr ⟨p, rfl, upd_same, fun H' hx bt => ⟨rfl, ?_⟩⟩⟩⟩
      · rw [upd_ne (ne_of_none upd_same np2)]
        exact upd_same
      · obtain ⟨lt, s2⟩ := made_of (fun _ _ e => e) nx nd upd_same .nil np2 hx bt
        exact q _ _ lt ((s1.trans sP).trans s2)
end
end LA
end
section
set_option Elab.async false
set_option linter.all false
set_option maxRecDepth 100000
set_option maxHeartbeats 4100000
namespace LA
open PySem L2 XS XT LM XV
abbrev sGreat : Stmt := top 31
abbrev sLB : Stmt := top 35
abbrev sLM : Stmt := top 36
abbrev DrawAt (P : Program) (w : World) (K : PySem.W.Frag) (mg : Str → Option Value) (base : Heap) (f : Addr) (fd : FuncData) : Prop := CallOf P w K mg base 1 "_law_draw" ["_law_pen_here", "_law_span"] spDraw f fd
theorem ten_le {i : Nat} (h : i ≤ 31) : 10 ^ i ≤ 10 ^ 31 := Nat.pow_le_pow_right (by decide) h
section
variable {P : Program} {w : World} {K : PySem.W.Frag} {mg : Str → Option Value} {base : Heap} {C : Addr}
/-- great: a number of at most k digits -/
def spGreat : Sp := fun vs H Q _ => ∃ (d c : Addr) (n : Int) (ns : List Int) (k : Nat), vs = [.ref d, .int (k : Int)] ∧ PenAt H d c n ns ∧ n + k < 1000000 ∧ k ≤ 31 ∧
  ∀ (r : Nat) (H' : Hp), r < 10 ^ k → PenAt H' d c (n + k) ns → But d H H' → Q (.int (r : Int)) H'
theorem scGr : FnScope ["_law_pen_here", "_law_digits", "_law_found", "_law_k"] ["_law_pen_here", "_law_digits"] (defScope sGreat) := ⟨rfl, rfl, rfl, by decide +kernel, rfl, by decide +kernel, by decide +kernel⟩
theorem ok_great {f f1 : Addr} {fd fd1 : FuncData} (F : Fun K "_law_great" "_law_great" sGreat f fd) (mR : mg "range" = none) (DR : DrawAt P w K mg base f1 fd1) : FnOk P w K mg base CX0 2 f fd ["_law_pen_here", "_law_digits"] spGreat := by
  refine F.ok scGr (fun vs H Q E h => ?_) (fun cdv A outer s H vs Q E hr h => ?_)
  · obtain ⟨d, c, n, ns, k, rfl, _⟩ := h
    rfl
  · obtain ⟨d, c, n, ns, k, rfl, pen, hn, hk, q⟩ := h
    refine ⟨_, pss_cons (by exact (ps_set (i := 2) scGr.nd rfl (.inl rfl) pe_int)) (
      pss_cons (by exact (ps_for PassesOwn.never rfl (pi_range1 rfl mR (pa_cons (pv 1) pa_nil)) (pg_name (i := 3) scGr.nd rfl (Or.inl rfl)) (
        pss_one (by exact (ps_set (i := 2) scGr.nd rfl (.inl rfl) (pe_op op_add (pe_op op_mulW pe_int (pv 2)) (pe_call DR.ok hr rfl DR.m DR.k DR.b .nil pass0 (pa_cons (pv 0) (pa_cons pe_int pa_nil))))))))) (
      pss_one (by exact (ps_ret (pv 2))))), ?_⟩
    have hk0 : (0 : Int) ≤ k := by omega
    refine ⟨_, rfl, (k : Int), rfl, by omega, by omega, for_range (lo := 0) (n := (k : Int).toNat) (fun i σ X => (∃ (x3 : Option V) (e : Int) (r : Nat), σ = [some (.ref d), some (.int k), some (.int e), x3] ∧ e = (r : Int) ∧ r < 10 ^ i) ∧ PenAt X d c (n + i) ns ∧ But d H X) ⟨⟨none, 0, 0, rfl, rfl, Nat.one_pos⟩, (by rw [show n + ((0 : Nat) : Int) = n by omega]; exact pen), But.refl⟩ (fun i σ X hi pw => ?_) (fun σ X pw => ?_)⟩
    · obtain ⟨⟨x3, e, r, rfl, rfl, hr⟩, pX, bX⟩ := pw
      have hi2 : i < k := by omega
      have r31 := Nat.lt_of_lt_of_le hr (ten_le (Nat.le_trans (Nat.le_of_lt hi2) hk))
      refine ⟨_, rfl, _, _, rfl, rfl, wide_mul (a := 4) (b := 110) (by decide) (by show r < 2 ^ 110; exact Nat.lt_of_lt_of_le r31 (by decide)) (by decide) (by decide) (by decide), ?_⟩
      refine ⟨_, rfl, d, c, n + i, ns, 10, rfl, pX, by omega, by decide, by decide, fun t X2 t0 t1 p2 b2 => ?_⟩
      refine ⟨_, _, rfl, rfl, ⟨_, _, 10 * r + t.toNat, rfl, by omega, ?_⟩, ?_, bX.trans b2⟩
      · rw [Nat.pow_succ]
        omega
      · rw [show n + ((i + 1 : Nat) : Int) = n + i + 1 by omega]
        exact p2
    · obtain ⟨⟨x3, e, r, rfl, rfl, hr⟩, pX, bX⟩ := pw
      have ek : ((k : Int).toNat) = k := by omega
      rw [ek] at pX hr
      exact ⟨_, rfl, q r X hr pX bX⟩
/-- no q in its lines -/
def NoQ (b : Bk Str) : Prop := ∀ z ∈ b.1, ∀ c ∈ cod z, c ≠ 113
/-- lines and tuples of them stay where the pen is written -/
theorem BkL.but {d : Addr} {H H' : Hp} (n1 : ∀ xs, H d ≠ some (.tup xs)) (n2 : ∀ xs, H d ≠ some (.lst xs)) (k : But d H H') {b : Bk Str} {v : V} (h : BkL H b v) : BkL H' b v := by
  obtain ⟨t, a, e, h1, h2⟩ := h
  exact ⟨t, a, e, k _ _ h1 (fun z => n1 _ (z ▸ h1)), k _ _ h2 (fun z => n2 _ (z ▸ h2))⟩
theorem PenAt.nT {H : Hp} {d c : Addr} {n : Int} {ns : List Int} (p : PenAt H d c n ns) : ∀ xs, H d ≠ some (.tup xs) := fun xs e => by
  obtain ⟨_, _, _, q⟩ := p
  rw [q.dc] at e
  cases e
theorem PenAt.nL {H : Hp} {d c : Addr} {n : Int} {ns : List Int} (p : PenAt H d c n ns) : ∀ xs, H d ≠ some (.lst xs) := fun xs e => by
  obtain ⟨_, _, _, q⟩ := p
  rw [q.dc] at e
  cases e
theorem PenAt.pairL {H H' : Hp} {d c : Addr} {n : Int} {ns : List Int} (p : PenAt H d c n ns) (k : But d H H') {bs : List (Bk Str)} {us : List V} (h : Paired (fun b v => BkL H b v) bs us) : Paired (fun b v => BkL H' b v) bs us := L2.Paired.mapP h fun _ _ z => z.but p.nT p.nL k
theorem PenAt.keepL {H H' : Hp} {d c : Addr} {n : Int} {ns : List Int} (p : PenAt H d c n ns) (k : But d H H') {a : Addr} {xs : List V} (h : H a = some (.lst xs)) : H' a = some (.lst xs) := k _ _ h fun z => p.nL _ (z ▸ h)
theorem lineB_of {z : Str} (h : ∀ c ∈ cod z, Lt c) : lineB z = true := by
  unfold lineB
  rw [List.all_eq_true]
  exact fun c hc => decide_eq_true (h c hc)
end
end LA
end
section
set_option Elab.async false
set_option linter.all false
set_option maxRecDepth 100000
set_option maxHeartbeats 4100000
namespace LA
open PySem L2 XS XT LM XV
theorem PenAt.le {H : Hp} {d c : Addr} {n m : Int} {ns : List Int} (p : PenAt H d c n ns) (h : n ≤ m) : PenAt H d c m ns := by
  obtain ⟨kvs, t, l, q⟩ := p
  exact q.more h
/-- a line of signs out of z, two at most -/
structure Sm (z y : Str) : Prop where
  of : ∀ c ∈ cod y, c ∈ cod z
  le : y.length ≤ 2
/-- a block of such lines -/
structure Lb (z : Str) (b : Bk Str) : Prop where
  v : Vb b
  l : ∀ y ∈ b.1, Sm z y
theorem Lb.noq {z : Str} {b : Bk Str} (s : Sgn z) (h : Lb z b) : NoQ b := fun y hy c hc => s.nq c ((h.l y hy).of c hc)
theorem Sm.line {z y : Str} (s : Sgn z) (h : Sm z y) : lineB y = true := lineB_of fun c hc => s.lets c (h.of c hc)
/-- picked items of a list of lines -/
theorem strs_mem {v : V} {ys : List Str} (h : v ∈ ys.map V.str) : ∃ y ∈ ys, v = .str y := by
  obtain ⟨y, hy, rfl⟩ := List.mem_map.mp h
  exact ⟨y, hy, rfl⟩
theorem ints_mem {v : V} {ts : List Nat} (h : v ∈ ts.map fun t : Nat => V.int (t : Int)) : ∃ t ∈ ts, v = .int (t : Int) := by
  obtain ⟨y, hy, rfl⟩ := List.mem_map.mp h
  exact ⟨y, hy, rfl⟩
theorem refs_of {H : Hp} : ∀ {bs : List (Bk Str)} {us : List V}, Paired (fun b v => BkL H b v) bs us → ∀ v ∈ us, ∃ t, v = .ref t
  | _, _, .nil, v, h => absurd h List.not_mem_nil
  | _, _, .cons ⟨t, a, e, _, _⟩ r, v, h => by
    rcases List.mem_cons.mp h with z | z
    · exact ⟨t, z.trans e⟩
    · exact refs_of r v z
/-- the list that holds the blocks may be written -/
theorem pairL_put {H H' : Hp} {L : Addr} {us : List V} (kL : H L = some (.lst us)) (hr : ∀ v ∈ us, ∃ t, v = .ref t) (k : But L H H') : ∀ {bs : List (Bk Str)} {vs : List V}, (∀ b ∈ bs, 1 ≤ b.1.length) → Paired (fun b v => BkL H b v) bs vs → Paired (fun b v => BkL H' b v) bs vs
  | _, _, _, .nil => .nil
  | b :: _, _, h1, .cons ⟨t, a, e, h2, h3⟩ r => .cons ⟨t, a, e, k _ _ h2 (fun z => by rw [z, kL] at h2; cases h2), k _ _ h3 (fun z => by
      rw [z, kL] at h3
      have e : us = b.1.map V.str := by injection h3 with h3; injection h3
      have l1 := h1 b (List.mem_cons_self ..)
      cases eb : b.1 with
      | nil => rw [eb] at l1; exact absurd l1 (by decide)
      | cons y ys =>
        obtain ⟨t, et⟩ := hr (.str y) (by rw [e, eb]; exact List.mem_cons_self ..)
        cases et)⟩ (pairL_put kL hr k (fun c hc => h1 c (List.mem_cons_of_mem _ hc)) r)
section
variable {P : Program} {w : World} {K : PySem.W.Frag} {mg : Str → Option Value} {base : Heap} {C : Addr}
/-- lblocks -/
def spLB : Sp := fun vs H Q _ => ∃ (d c : Addr) (n : Int) (ns : List Int) (z : Str) (m : Nat) (l : Addr) (ts : List Nat), vs = [.ref d, .str z, .int (m : Int), .ref l] ∧ PenAt H d c n ns ∧ n + 50 < 1000000 ∧ Sgn z ∧ m ≤ 5 ∧ H l = some (.lst (ts.map fun t : Nat => V.int (t : Int))) ∧ ts ≠ [] ∧ ts.length ≤ 20 ∧ (∀ t ∈ ts, 1 ≤ t ∧ t ≤ 10 ^ 30) ∧
  ∀ (p : Addr) (bs : List (Bk Str)) (us : List V) (H' : Hp), H' p = some (.lst us) → Paired (fun b v => BkL H' b v) bs us → (∀ b ∈ bs, Lb z b) → bs.length ≤ m → PenAt H' d c (n + 50) ns → But d H H' → Q (.ref p) H'
abbrev nLB : List Str := ["_law_pen_here", "_law_signs_here", "_law_most_blocks", "_law_tops", "_law_k", "_law_pool", "_law_found", "_law_rows", "_law_j"]
theorem scLB : FnScope nLB ["_law_pen_here", "_law_signs_here", "_law_most_blocks", "_law_tops"] (defScope sLB) := ⟨rfl, rfl, rfl, by decide +kernel, rfl, by decide +kernel, by decide +kernel⟩
theorem ok_LB {f f1 f2 f3 : Addr} {fd fd1 fd2 fd3 : FuncData} (F : Fun K "_law_lblocks" "_law_lblocks" sLB f fd) (mR : mg "range" = none) (DR : DrawAt P w K mg base f1 fd1) (PK : PickAt P w K mg base f2 fd2) (RO : CallOf P w K mg base 3 "_law_row" ["_law_pen_here", "_law_signs_here", "_law_least", "_law_most_letters"] spRow f3 fd3) :
    FnOk P w K mg base CX0 4 f fd ["_law_pen_here", "_law_signs_here", "_law_most_blocks", "_law_tops"] spLB := by
  refine F.ok scLB (fun vs H Q E h => ?_) (fun cdv A outer s H vs Q E hr h => ?_)
  · obtain ⟨d, c, n, ns, z, m, l, ts, rfl, _⟩ := h
    rfl
  · obtain ⟨d, c, n, ns, z, m, l, ts, rfl, pen, hn, sz, hm, hl, ne, tl, ht, q⟩ := h
    have hr1 : Room 1 _ := hr.mono (by decide)
    have hr2 : Room 2 _ := hr.mono (by decide)
    refine ⟨_, pss_cons (by exact (ps_asg (pe_tup (pa_cons (pe_lc (own := [("_law_k", 4)]) (g := gName 4) (tt := tYes) (te := tCall spRow [] (fun _ _ _ => False) (tCons (tVar 0) (tCons (tVar 1) (tCons (tC (.int 0)) (tCons (tC (.int 2)) tNil))))) rfl scLB.nd (pi_range1 rfl mR (pa_cons pe_int pa_nil))
          (blkOk_by (N := nLB) (sc := defScope sLB) (by decide +kernel)) (fun _ _ _ _ _ => by exact (pg_name (i := 4) scLB.nd rfl (Or.inl rfl))) (fun _ _ _ _ _ => by exact pts_nil)
          (fun _ _ _ _ _ => by exact (pe_call RO.ok hr rfl RO.m RO.k RO.b .nil pass0 (pa_cons (pv 0) (pa_cons (pv 1) (pa_cons pe_int (pa_cons pe_int pa_nil))))))) (pa_cons (pe_lst pa_nil) pa_nil))) (pg_tup rfl (pgs_cons (by exact (pg_name (i := 5) scLB.nd rfl (Or.inr rfl))) (pgs_cons (by exact (pg_name (i := 6) scLB.nd rfl (Or.inl rfl))) pgs_nil))))) (
      pss_cons (by exact (ps_for PassesOwn.never rfl (pi_range1 rfl mR (pa_cons (pe_call DR.ok hr1 rfl DR.m DR.k DR.b .nil pass0 (pa_cons (pv 0) (pa_cons (pe_op op_add (pv 2) pe_int) pa_nil))) pa_nil)) (pg_name (i := 4) scLB.nd rfl (Or.inl rfl)) (
        pss_cons (by exact (ps_setLc (i := 7) (own := [("_law_j", 8)]) (g := gName 8) (tt := tYes) (te := tCall spPick [] (fun _ _ _ => False) (tCons (tVar 0) (tCons (tVar 5) tNil))) rfl scLB.nd rfl rfl (sw_true rfl rfl rfl (by decide +kernel)) (pi_range1 rfl mR (pa_cons (pe_op op_add pe_int (pe_call DR.ok hr1 rfl DR.m DR.k DR.b .nil pass0 (pa_cons (pv 0) (pa_cons pe_int pa_nil)))) pa_nil))
          (blkOk_by (N := nLB) (sc := defScope sLB) (by decide +kernel)) (fun _ _ _ _ _ => by exact (pg_name (i := 8) scLB.nd rfl (Or.inl rfl))) (fun _ _ _ _ _ => by exact pts_nil)
          (fun _ _ _ _ _ => by exact (pe_call PK.ok hr2 rfl PK.m PK.k PK.b .nil pass0 (pa_cons (pv 0) (pa_cons (pv 5) pa_nil)))))) (
        pss_one (by exact (ps_expr (pe_bm PySem.F.plainAttrs_list PySem.F.slot_list_append PySem.F.type_list_append mt_append (pv 6) (pa_cons (pe_tup (pa_cons (pv 7) (pa_cons (pe_call PK.ok hr2 rfl PK.m PK.k PK.b .nil pass0 (pa_cons (pv 0) (pa_cons (pv 3) pa_nil))) pa_nil))) pa_nil))))))))
      (pss_one (by exact (ps_ret (pv 6))))), ?_⟩
    have n0 := pen.n0
    refine ⟨3, rfl, by decide, by decide, fun D nD => ?_⟩
    obtain ⟨nDd, nDc⟩ := pen.fresh nD
    refine lc_range (fun i G => ∃ ys : List Str, G D = some (.lst (ys.map V.str)) ∧ ys.length = i ∧ (∀ y ∈ ys, Sm z y) ∧ PenAt G d c (n + 3 * i) ns ∧ But d H G) ⟨[], upd_same, rfl, fun _ h => absurd h List.not_mem_nil, (by rw [show n + 3 * ((0 : Nat) : Int) = n by omega]; exact pen.put nDd nDc), But.same (same_upd nD)⟩ (fun i G hi p => ?_) (fun G p => ?_)
    · obtain ⟨ys, pD, yl, sm, pP, pB⟩ := p
      refine ⟨rfl, ?_⟩
      dsimp only [tYes]
      rw [if_pos rfl]
      have i3 : i < 3 := by omega
      refine ⟨_, rfl, _, rfl, d, c, n + 3 * i, ns, z, 0, 2, rfl, pP, by omega, by have := sz.two; omega, by have := sz.three; omega, by decide, by decide, fun y G1 my l0 l2 p1 b1 => ?_⟩
      refine ⟨_, b1 _ _ pD nDd, Nat.lt_of_le_of_lt (by rw [List.length_map]; omega : _ ≤ 3) (by decide), ys ++ [y], ?_, by rw [List.length_append, yl]; rfl, ?_, ?_, (pB.trans b1).put nD⟩
      · rw [List.map_append]
        exact upd_same
      · intro x hx
        rcases List.mem_append.mp hx with h | h
        · exact sm x h
        · rw [List.mem_singleton] at h
          subst h
          exact ⟨my, by omega⟩
      · rw [show n + 3 * ((i + 1 : Nat) : Int) = n + 3 * i + 1 + 2 by omega]
        exact p1.put nDd nDc
    · obtain ⟨ys, pD, yl, sm, pP, pB0⟩ := p
      have pB := pB0
      replace yl : ys.length = 3 := yl
      replace pP : PenAt G d c (n + 9) ns := pP
      refine ⟨(by show 0 ≤ sizeLine; decide), fun L nL => ⟨(by show 2 ≤ sizeLine; decide), fun T nT => ?_⟩⟩
      have sL := same_upd (o := .lst []) nL
      have sT := same_upd (o := .tup [.ref D, .ref L]) nT
      have sLT := sL.trans sT
      refine ⟨T, _, rfl, SqT.of upd_same, rfl, _, _, rfl, _, _, rfl, rfl, ?_⟩
      obtain ⟨nLd, nLc⟩ := pP.fresh nL
      have pP1 := pP.keep sLT
      have bLT := pB.trans (But.same sLT)
      refine ⟨_, rfl, _, rfl, _, _, rfl, rfl, ?_⟩
      refine ⟨d, c, n + 9, ns, (m : Int) + 1, rfl, pP1, by omega, by omega, by omega, fun r H1 r0 r1 pen1 b1 => ?_⟩
      have kD : H1 D = some (.lst (ys.map V.str)) := b1 _ _ (sLT _ _ pD) nDd
      have kL : H1 L = some (.lst []) := b1 _ _ (sT _ _ upd_same) nLd
      have nLD : L ≠ D := (ne_of_none pD nL).symm
      have nll : L ≠ l := fun e => by
        have := pB _ _ hl fun z => pen.nL _ (z ▸ hl)
        rw [← e, nL] at this
        cases this
      refine ⟨r, rfl, by omega, by omega, for_range (lo := 0) (n := r.toNat) (fun i σ X => (∃ x4 x7 x8 : Option V, σ = [some (.ref d), some (.str z), some (.int (m : Int)), some (.ref l), x4, some (.ref D), some (.ref L), x7, x8]) ∧ (∃ (bs : List (Bk Str)) (us : List V), X L = some (.lst us) ∧ bs.length = i ∧ Paired (fun b v => BkL X b v) bs us ∧ ∀ b ∈ bs, Lb z b) ∧ X D = some (.lst (ys.map V.str)) ∧ X l = some (.lst (ts.map fun t : Nat => V.int (t : Int))) ∧ PenAt X d c (n + 10 + 6 * i) ns ∧ But d H X) ⟨⟨_, _, _, rfl⟩, ⟨[], [], kL, rfl, .nil, fun _ h => absurd h List.not_mem_nil⟩, kD, (bLT.trans b1) _ _ hl (fun z => pen.nL _ (z ▸ hl)), (by rw [show n + 10 + 6 * ((0 : Nat) : Int) = n + 9 + 1 by omega]; exact pen1), bLT.trans b1⟩ (fun i σ X hi pw => ?_) (fun σ X pw => ?_)⟩
      · obtain ⟨⟨x4, x7, x8, rfl⟩, ⟨bs, us, kL, bl, pr, ok⟩, kD, kl, pX, bX⟩ := pw
        have i5 : i < 6 := by omega
        refine ⟨_, rfl, d, c, n + 10 + 6 * i, ns, 4, rfl, pX, by omega, by decide, by decide, fun r2 X1 t0 t1 p1 b1 => ⟨_, _, rfl, rfl, 1 + r2, rfl, by omega, by omega, fun R nR => ?_⟩⟩
        obtain ⟨nRd, nRc⟩ := p1.fresh nR
        have kD1 := pX.keepL b1 kD
        have kL1 := pX.keepL b1 kL
        have kl1 := pX.keepL b1 kl
        have pr1 := pX.pairL b1 pr
        have sR := same_upd (o := .lst []) nR
        refine lc_range (fun j G => ∃ ws : List Str, G R = some (.lst (ws.map V.str)) ∧ ws.length = j ∧ (∀ y ∈ ws, y ∈ ys) ∧ PenAt G d c (n + 11 + 6 * i + j) ns ∧ But d X1 G) ⟨[], upd_same, rfl, fun _ h => absurd h List.not_mem_nil, (by rw [show n + 11 + 6 * (i : Int) + ((0 : Nat) : Int) = n + 10 + 6 * i + 1 by omega]; exact p1.put nRd nRc), But.same sR⟩ (fun j G hj p => ?_) (fun G p => ?_)
        · obtain ⟨ws, pD, wl, wm, pP, pB⟩ := p
          refine ⟨rfl, ?_⟩
          dsimp only [tYes]
          rw [if_pos rfl]
          have j5 : j < 4 := by omega
          refine ⟨_, rfl, _, rfl, d, c, n + 11 + 6 * i + j, ns, _, rfl, pP, by omega, .inl ⟨D, _, rfl, p1.keepL pB kD1, by rw [List.length_map]; omega, by rw [List.length_map]; omega, fun v G1 hv p2 b2 => ?_⟩⟩
          obtain ⟨y, hy, rfl⟩ := strs_mem hv
          refine ⟨_, b2 _ _ pD nRd, Nat.lt_of_le_of_lt (by rw [List.length_map]; omega : _ ≤ 4) (by decide), ws ++ [y], ?_, by rw [List.length_append, wl]; rfl, ?_, ?_, (pB.trans b2).put nR⟩
          · rw [List.map_append]
            exact upd_same
          · intro x hx
            rcases List.mem_append.mp hx with h | h
            · exact wm x h
            · rw [List.mem_singleton] at h
              subst h
              exact hy
          · rw [show n + 11 + 6 * (i : Int) + ((j + 1 : Nat) : Int) = n + 11 + 6 * i + j + 1 by omega]
            exact p2.put nRd nRc
        · obtain ⟨ws, pD, wl, wm, pP, pB⟩ := p
          have wl4 : ws.length ≤ 4 := by omega
          have wl1 : 1 ≤ ws.length := by omega
          have kL2 := p1.keepL pB kL1
          have kl2 := p1.keepL pB kl1
          have kD2 := p1.keepL pB kD1
          have pr2 := p1.pairL pB pr1
          refine ⟨_, rfl, .inl ⟨rfl, _, SqL.of kL2⟩, _, rfl, _, rfl, _, rfl, d, c, n + 11 + 6 * i + (1 + r2).toNat, ns, _, rfl, pP, by omega, .inl ⟨l, _, rfl, kl2, by rw [List.length_map]; exact List.length_pos_iff.mpr ne, by rw [List.length_map]; omega, fun v X3 hv p3 b3 => ?_⟩⟩
          obtain ⟨t, htm, rfl⟩ := ints_mem hv
          have kL3 := pP.keepL b3 kL2
          have kR3 := pP.keepL b3 pD
          have nRL : R ≠ L := (ne_of_none kL1 nR).symm
          refine ⟨(by show 2 ≤ sizeLine; decide), fun T2 nT2 => ?_⟩
          have sT2 := same_upd (o := .tup [.ref R, .int (t : Int)]) nT2
          have nTL : T2 ≠ L := (ne_of_none kL3 nT2).symm
          have ul : us.length = i := by rw [← pair_len pr, bl]
          refine ⟨L, _, _, rfl, rfl, sT2 _ _ kL3, Nat.lt_of_le_of_lt (by omega : _ ≤ 6) (by decide), ?_⟩
          have bt : But L X3 (upd (upd X3 T2 (.tup [.ref R, .int (t : Int)])) L (.lst (us ++ [.ref T2]))) := But.same_put sT2
          have hLn : H L = none := pB0.none nLd nL
          have b5 : But d H (upd (upd X3 T2 (.tup [.ref R, .int (t : Int)])) L (.lst (us ++ [.ref T2]))) := fun a o e nd =>
            bt _ _ (b3 _ _ (pB _ _ (b1 _ _ (bX _ _ e nd) nd) nd) nd) (ne_of_none e hLn)
          have nDL : D ≠ L := fun e => nLD e.symm
          refine ⟨⟨_, _, _, rfl⟩, ⟨bs ++ [(ws, t)], us ++ [.ref T2], upd_same, by rw [List.length_append, bl]; rfl, ?_, ?_⟩, ?_, ?_, ?_, ?_⟩
          · have bt2 := pP.pairL b3 pr2
            refine pair_app (pairL_put (H := X3) kL3 (refs_of bt2) bt (fun b hb => (ok b hb).v.l1) bt2) (.cons ⟨T2, R, rfl, ?_, ?_⟩ .nil)
            · rw [upd_ne nTL]
              exact upd_same
            · rw [upd_ne nRL]
              exact sT2 _ _ kR3
          · intro b hb
            rcases List.mem_append.mp hb with h | h
            · exact ok b h
            · rw [List.mem_singleton] at h
              subst h
              exact ⟨⟨wl1, wl4, (ht t htm).1, (ht t htm).2, fun y hy => ⟨(sm y (wm y hy)).line sz, by have := (sm y (wm y hy)).le; omega⟩⟩, fun y hy => sm y (wm y hy)⟩
          · rw [upd_ne nDL]
            exact sT2 _ _ (pP.keepL b3 kD2)
          · rw [upd_ne (fun e => nll e.symm)]
            exact sT2 _ _ (pP.keepL b3 kl2)
          · rw [show n + 10 + 6 * ((i + 1 : Nat) : Int) = n + 10 + 6 * i + 6 by omega]
            obtain ⟨nTd, nTc⟩ := p3.fresh nT2
            refine ((p3.put nTd nTc).put (fun e => nLd e) (fun e => nLc e)).le (by omega)
          · exact b5
      · obtain ⟨⟨x4, x7, x8, rfl⟩, ⟨bs, us, kL, bl, pr, ok⟩, kD, kl, pX, bX⟩ := pw
        exact ⟨_, rfl, q L bs us X kL pr ok (by omega) (pX.le (by omega)) bX⟩
end
end LA
end
section
set_option Elab.async false
set_option linter.all false
set_option maxRecDepth 100000
set_option maxHeartbeats 4100000
namespace LA
open PySem L2 XS XT LM XV XO
section
variable {P : Program} {w : World} {K : PySem.W.Frag} {mg : Str → Option Value} {base : Heap} {C : Addr}
/-- the class's facts for making and adding -/
structure LgAt (P : Program) (w : World) (K : PySem.W.Frag) (mg : Str → Option Value) (base : Heap) (C : Addr) (fI fA : Addr) (fdA : FuncData) : Prop where
  k : KLg K C
  mak : Mk K C fI
  nm : mg "LongText" = some (.ref C)
  ip : FnV P w K mg base CX0 5 fI [] (spIP C)
  add : FnOk P w K mg base CX0 7 fA fdA ["self", "other"] (spPlus C)
  at_ : PySem.W.findIn K (.ref C) "__add__" = some (some (.ref fA))
  fn : PySem.W.isFn K (.ref fA) = true
  b : Binds K fdA ["self", "other"] []
  self : PySem.W.selfFirst K C = true
theorem init_ip {X : Hp} {us : List V} {bs : List (Bk Str)} {Q : VK} {E : XK} (pr : Paired (fun b v => BkL X b v) bs us) (vb : ∀ b ∈ bs, Vb b) (few : bs.length ≤ 10) {x dx : Addr} (nx : X x = none) (nd : X dx = none) (ne : dx ≠ x) (q : ∀ (H' : Hp), LT C H' bs (.ref x) → Same X H' → Q .non H') :
    spIP C (.ref x :: us) [] (upd (upd X dx (.own x)) x (.ins C dx [])) Q E := by
  have sx : Same X (upd (upd X dx (.own x)) x (.ins C dx [])) := (same_upd nd).trans (same_upd (by rw [upd_ne (fun z => ne z.symm)]; exact nx))
  refine ⟨_, _, rfl, by rw [← pair_len pr]; omega, fun p np => ⟨x, dx, p, _, rfl, ?_, .inl ⟨rfl, us, bs, upd_same, bkL_same (sx.trans (same_upd np)) pr, vb, few, fun t ws H' hx ht prT bt => ?_⟩⟩⟩
  · rw [upd_ne (ne_of_none upd_same np)]
    exact upd_same
  · refine q _ ⟨x, dx, t, ws, rfl, hx, ht, prT⟩ fun c o e => ?_
    have n1 := ne_of_none e nx
    refine bt _ _ ?_ n1
    rw [upd_ne (ne_of_none (sx _ _ e) np)]
    exact sx _ _ e
/-- lmade -/
def spLM (C : Addr) : Sp := fun vs H Q _ => ∃ (p : Addr) (us : List V) (bs : List (Bk Str)), vs = [.ref p] ∧ H p = some (.lst us) ∧ Paired (fun b v => BkL H b v) bs us ∧ (∀ b ∈ bs, Vb b) ∧ bs.length ≤ 100 ∧ ∀ (v : V) (H' : Hp), LT C H' bs v → Same H H' → Q v H'
theorem scLM : FnScope ["_law_blocks", "_law_found", "_law_one"] ["_law_blocks"] (defScope sLM) := ⟨rfl, rfl, rfl, by decide +kernel, rfl, by decide +kernel, by decide +kernel⟩
theorem ok_LM {f fI fA : Addr} {fd fdA : FuncData} (F : Fun K "_law_lmade" "_law_lmade" sLM f fd) (G : LgAt P w K mg base C fI fA fdA) : FnOk P w K mg base CX0 8 f fd ["_law_blocks"] (spLM C) := by
  refine F.ok scLM (fun vs H Q E h => ?_) (fun cdv A outer s H vs Q E hr h => ?_)
  · obtain ⟨p, us, bs, rfl, _⟩ := h
    rfl
  · obtain ⟨p, us, bs, rfl, hp, pr, vb, few, q⟩ := h
    have hr6 : Room 6 _ := hr.mono (by decide)
    refine ⟨_, pss_cons (by exact (ps_set (i := 1) scLM.nd rfl (.inl rfl) (pe_makeVK (tk := tNil) (ks := []) G.mak G.ip hr6 rfl G.nm pass0 pk_nil))) (
      pss_cons (by exact (ps_for PassesOwn.never rfl (pi_list (pv 0)) (pg_name (i := 2) scLM.nd rfl (Or.inl rfl)) (
        pss_one (by exact (ps_set (i := 1) scLM.nd rfl (.inl rfl) (pe_op (op_ownA G.add G.at_ G.fn G.b pass0 hr G.self) (pv 1) (pe_makeV G.mak G.ip hr6 rfl G.nm pass0 (pa_cons (pv 2) pa_nil)))))))) (
      pss_one (by exact (ps_ret (pv 1))))), ?_⟩
    refine ⟨rfl, fun x0 d0 nx nd ne => init_ip (bs := []) .nil (fun _ h => absurd h List.not_mem_nil) (by decide) nx nd ne fun H0 l0 s0 => ⟨rfl, ?_⟩⟩
    refine ⟨_, rfl, p, rfl, ⟨_, SqL.of (s0 _ _ hp)⟩, for_it (walk_list (K := K) (a := p) (xs := us)) (fun i σ X => (∃ (v : V) (x2 : Option V), σ = [some (.ref p), some v, x2] ∧ LT C X (bs.take i) v) ∧ Same H X) ⟨⟨_, none, rfl, l0⟩, s0⟩ (fun i σ X _ pw => SqL.of (pw.2 _ _ hp)) (fun i x σ X X' hi pw yl => ?_) (fun σ X pw => ?_)⟩
    · obtain ⟨⟨v, x2, rfl, lt⟩, sX⟩ := pw
      obtain ⟨rfl, hx⟩ := yl
      obtain ⟨b, hb, hbk⟩ := pair_at pr hx
      have vbb := vb b (List.mem_of_getElem? hb)
      refine ⟨_, rfl, _, rfl, rfl, fun x1 d1 nx nd ne => init_ip (bs := [b]) (.cons (hbk.same sX) .nil) (fun c hc => by rw [List.mem_singleton] at hc; exact hc ▸ vbb) (by show 1 ≤ 10; decide) nx nd ne fun H1 l1 s1 => ⟨rfl, ?_⟩⟩
      have lt1 := lt.same s1
      obtain ⟨a, dx, t, us1, rfl, ha, ht, prT⟩ := id lt1
      obtain ⟨a2, dy, t2, us2, ea, ha2, ht2, prT2⟩ := id l1
      cases ea
      refine ⟨a, dx, _, x1, dy, _, rfl, rfl, ha, ha2, bs.take i, [b], _, _, rfl, lt1, l1, ?_, fun z H' lz sz => ⟨⟨_, _, rfl, ?_⟩, (sX.trans s1).trans sz⟩⟩
      · rw [List.length_take]
        have : min i bs.length ≤ bs.length := Nat.min_le_right _ _
        show _ + 1 ≤ 1000
        omega
      · rw [List.take_succ, hb]
        exact lz
    · obtain ⟨⟨v, x2, rfl, lt⟩, sX⟩ := pw
      rw [← pair_len pr, List.take_length] at lt
      exact ⟨_, rfl, q v X lt sX⟩
end
end LA
end
section
set_option Elab.async false
set_option linter.all false
set_option maxRecDepth 100000
set_option maxHeartbeats 4100000
namespace LA
open PySem L2 XS XT LM XV XO
abbrev sLW : Stmt := top 37
abbrev sLS : Stmt := top 38
abbrev sLL : Stmt := top 39
def optS : Option Str → V
  | none => .non
  | some y => .str y
section
variable {P : Program} {w : World} {K : PySem.W.Frag} {mg : Str → Option Value} {base : Heap} {C : Addr}
/-- the law's blocks at p -/
structure LBs (H : Hp) (p : Addr) (bs : List (Bk Str)) : Prop where
  ex : ∃ us, H p = some (.lst us) ∧ Paired (fun b v => BkL H b v) bs us
theorem LBs.same {H H' : Hp} (s : Same H H') {p : Addr} {bs : List (Bk Str)} (h : LBs H p bs) : LBs H' p bs := by
  obtain ⟨us, h1, h2⟩ := h.ex
  exact ⟨us, s _ _ h1, bkL_same s h2⟩
theorem LBs.but {d : Addr} {H H' : Hp} (n1 : ∀ xs, H d ≠ some (.tup xs)) (n2 : ∀ xs, H d ≠ some (.lst xs)) (k : But d H H') {p : Addr} {bs : List (Bk Str)} (h : LBs H p bs) : LBs H' p bs := by
  obtain ⟨us, h1, h2⟩ := h.ex
  exact ⟨us, k _ _ h1 (fun z => n2 _ (z ▸ h1)), L2.Paired.mapP h2 fun _ _ z => z.but n1 n2 k⟩
/-- lsize -/
def spLS : Sp := fun vs H Q _ => ∃ (p : Addr) (bs : List (Bk Str)), vs = [.ref p] ∧ LBs H p bs ∧ (∀ b ∈ bs, Vb b) ∧ bs.length ≤ 100 ∧ ∀ H', Same H H' → Q (.int ((wr bs).length : Int)) H'
theorem scLS : FnScope ["_law_blocks", "_law_rows", "_law_times"] ["_law_blocks"] (defScope sLS) := ⟨rfl, rfl, rfl, by decide +kernel, rfl, by decide +kernel, by decide +kernel⟩
theorem ok_LS {f : Addr} {fd : FuncData} (F : Fun K "_law_lsize" "_law_lsize" sLS f fd) (mL : mg "len" = none) (mS : mg "sum" = none) : FnOk P w K mg base CX0 1 f fd ["_law_blocks"] spLS := by
  refine F.ok scLS (fun vs H Q E h => ?_) (fun cdv A outer s H vs Q E hr h => ?_)
  · obtain ⟨p, bs, rfl, _⟩ := h
    rfl
  · obtain ⟨p, bs, rfl, ⟨us, hp, pr⟩, vb, few, q⟩ := h
    refine ⟨_, pss_one (by exact (ps_ret (pe_callB (cr_sum rfl) (by rfl) mS (by decide +kernel) (pa_cons (pe_lc (own := [("_law_rows", 1), ("_law_times", 2)]) (g := gTup K 2 (gCons (gName 1) (gCons (gName 2) gNil))) (tt := tYes) (te := tOp (rI CMulW fun i j => .int (i * j)) (tCB (rLen K) (tCons (tVar 1) tNil)) (tVar 2)) rfl scLS.nd (pi_list (pv 0))
        (blkOk_by (N := ["_law_blocks", "_law_rows", "_law_times"]) (sc := defScope sLS) (by decide +kernel))
        (fun _ _ _ _ _ => by exact (pg_tup rfl (pgs_cons (by exact (pg_name (i := 1) scLS.nd rfl (Or.inl rfl))) (pgs_cons (by exact (pg_name (i := 2) scLS.nd rfl (Or.inl rfl))) pgs_nil))))
        (fun _ _ _ _ _ => by exact pts_nil)
        (fun _ _ _ _ _ => by exact (pe_op op_mulW (pe_callB call_len_seq (by rfl) mL PySem.boot_len (pa_cons (pv 1) pa_nil)) (pv 2)))) pa_nil)))), ?_⟩
    refine ⟨_, rfl, p, rfl, ⟨_, SqL.of hp⟩, fun DD nD => ?_⟩
    refine lc_it (walk_list (K := K) (a := p) (xs := us)) (fun i Y => Y DD = some (.lst ((bs.take i).map fun b => V.int ((b.1.length * b.2 : Nat) : Int))) ∧ Same H Y) ⟨upd_same, same_upd nD⟩ (fun i Y _ p => SqL.of (p.2 _ _ hp)) (fun i x Y Y' hi p yl => ?_) (fun Y p => ?_)
    · obtain ⟨pD, pS⟩ := p
      obtain ⟨rfl, hx⟩ := yl
      obtain ⟨b, hb, tb, ab, rfl, h1, h2⟩ := pair_at pr hx
      have v := vb b (List.mem_of_getElem? hb)
      refine ⟨tb, _, rfl, SqT.of (pS _ _ h1), rfl, _, _, rfl, _, _, rfl, rfl, rfl, ?_⟩
      dsimp only [tYes]
      rw [if_pos rfl]
      refine ⟨_, rfl, ab, _, rfl, .inl (SqL.of (pS _ _ h2)), _, rfl, _, _, rfl, rfl, ?_⟩
      have e1 : ((b.1.map V.str).length : Int) = (b.1.length : Int) := by rw [List.length_map]
      rw [e1]
      refine ⟨wide_mul (rows_small v.l4) (times_small v.t30) (by decide) (by decide) (by decide), _, pD, ?_, ?_, ?_⟩
      · rw [List.length_map, List.length_take]
        exact Nat.lt_of_le_of_lt (Nat.min_le_right _ _) (Nat.lt_of_le_of_lt few (by decide))
      · rw [List.take_succ, hb, List.map_append]
        exact upd_same
      · intro c o e
        rw [upd_ne (ne_of_none e nD)]
        exact pS c o e
    · obtain ⟨pD, pS⟩ := p
      rw [← pair_len pr, List.take_length] at pD
      refine ⟨DD, (bs.map fun b => ((b.1.length * b.2 : Nat) : Int)), rfl, ?_, ?_⟩
      · rw [List.map_map]
        exact SqL.of pD
      · rw [sum_wr]
        exact q Y pS
/-- lline: the line with a number from 1 on -/
def spLL : Sp := fun vs H Q _ => ∃ (p : Addr) (bs : List (Bk Str)) (e : Int) (n : Nat), vs = [.ref p, .int e] ∧ e = (n : Int) + 1 ∧ LBs H p bs ∧ (∀ b ∈ bs, Vb b) ∧ ∀ H', Same H H' → Q (optS ((wr bs)[n]?)) H'
theorem scLL : FnScope ["_law_blocks", "_law_slot", "_law_rows", "_law_times"] ["_law_blocks", "_law_slot"] (defScope sLL) := ⟨rfl, rfl, rfl, by decide +kernel, rfl, by decide +kernel, by decide +kernel⟩
theorem ok_LL {f : Addr} {fd : FuncData} (F : Fun K "_law_lline" "_law_lline" sLL f fd) (mL : mg "len" = none) (mI : mg "int" = none) : FnOk P w K mg base CX0 1 f fd ["_law_blocks", "_law_slot"] spLL := by
  refine F.ok scLL (fun vs H Q E h => ?_) (fun cdv A outer s H vs Q E hr h => ?_)
  · obtain ⟨p, bs, e, n, rfl, _⟩ := h
    rfl
  · obtain ⟨p, bs, e, n, rfl, rfl, ⟨us, hp, pr⟩, vb, q⟩ := h
    refine ⟨_, pss_cons (by exact (ps_set (i := 1) scLL.nd rfl (.inl rfl) (pe_op op_sub (pv 1) pe_int))) (
      pss_cons (by exact (ps_for PassesOwn.never rfl (pi_list (pv 0)) (pg_tup rfl (pgs_cons (by exact (pg_name (i := 2) scLL.nd rfl (Or.inl rfl))) (pgs_cons (by exact (pg_name (i := 3) scLL.nd rfl (Or.inl rfl))) pgs_nil))) (
        pss_cons (by exact (ps_if (pt_cmpR op_lt (pv 1) (pe_op op_mulW (pe_callB call_len_seq (by rfl) mL PySem.boot_len (pa_cons (pv 2) pa_nil)) (pv 3)) (nomark _)) (pss_one (by exact (ps_ret (pe_ix ix_list (pv 2) (pe_op op_mod (pe_callTy call_int1 (by rfl) mI (by decide +kernel) (pa_cons (pv 1) pa_nil)) (pe_callB call_len_seq (by rfl) mL PySem.boot_len (pa_cons (pv 2) pa_nil))) (fun _ _ => rfl))))) pss_nil)) (
        pss_one (by exact (ps_set (i := 1) scLL.nd rfl (.inl rfl) (pe_op op_sub (pv 1) (pe_op op_mulW (pe_callB call_len_seq (by rfl) mL PySem.boot_len (pa_cons (pv 2) pa_nil)) (pv 3))))))))) (
      pss_one (by exact (ps_ret pe_non)))), ?_⟩
    refine ⟨_, rfl, _, _, rfl, rfl, ?_⟩
    refine ⟨_, rfl, p, rfl, ⟨_, SqL.of hp⟩, for_it (walk_list (K := K) (a := p) (xs := us)) (fun i σ X => (∃ (x2 x3 : Option V) (e : Int) (j : Nat), σ = [some (.ref p), some (.int e), x2, x3] ∧ e = (j : Int) ∧ (wr (bs.take i)).length + j = n) ∧ Same H X) ⟨⟨none, none, _, n, rfl, by omega, by rw [List.take_zero]; exact Nat.zero_add n⟩, fun _ _ e => e⟩ (fun i σ X _ pw => SqL.of (pw.2 _ _ hp)) (fun i x σ X X' hi pw yl => ?_) (fun σ X pw => ?_)⟩
    · obtain ⟨⟨x2, x3, e, j, rfl, ee, ej⟩, pS⟩ := pw
      obtain ⟨rfl, hx⟩ := yl
      obtain ⟨b, hb, tb, ab, rfl, h1, h2⟩ := pair_at pr hx
      have v := vb b (List.mem_of_getElem? hb)
      have e1 : ((b.1.map V.str).length : Int) = (b.1.length : Int) := by rw [List.length_map]
      have hA := pS _ _ h2
      have wm : CMulW ((b.1.map V.str).length : Int) (b.2 : Int) := by
        rw [e1]
        exact wide_mul (rows_small v.l4) (times_small v.t30) (by decide) (by decide) (by decide)
      have e2 : ((b.1.map V.str).length : Int) * (b.2 : Int) = ((b.1.length * b.2 : Nat) : Int) := by rw [e1, Int.natCast_mul]
      refine ⟨tb, _, rfl, SqT.of (pS _ _ h1), rfl, _, _, rfl, _, _, rfl, rfl, ?_⟩
      refine ⟨_, rfl, _, rfl, ab, _, rfl, .inl (SqL.of hA), _, rfl, _, _, rfl, rfl, wm, _, _, rfl, rfl, _, rfl, ?_⟩
      rw [e2]
      by_cases c : j < b.1.length * b.2
      · rw [decide_eq_true (show e < ((b.1.length * b.2 : Nat) : Int) by omega)]
        refine iteT ?_
        have l0 : (0 : Int) < ((b.1.map V.str).length : Int) := by have := v.l1; omega
        have gm : (wr bs)[n]? = b.1[j % b.1.length]? := by
          have eb : bs = bs.take i ++ b :: bs.drop (i + 1) := by
            obtain ⟨hj, e3⟩ := List.getElem?_eq_some_iff.mp hb
            rw [← e3, List.getElem_cons_drop, List.take_append_drop]
          have z := get_mid (bs.take i) b (bs.drop (i + 1)) j c
          rw [← eb, ej] at z
          exact z
        have jl : j % b.1.length < b.1.length := Nat.mod_lt _ v.l1
        have ea : b.1[j % b.1.length]? = some b.1[j % b.1.length] := List.getElem?_eq_getElem jl
        refine ⟨_, rfl, _, rfl, .inl ⟨e, rfl, _, rfl, ab, _, rfl, .inl (SqL.of hA), _, _, rfl, rfl, l0, ab, _, _, _, rfl, rfl, SqL.of hA, (?_ : atI _ _ = some (.str b.1[j % b.1.length])), ?_⟩⟩
        · rw [e1, ee, show (j : Int) % (b.1.length : Int) = ((j % b.1.length : Nat) : Int) by omega]
          exact atI_nat (by rw [List.getElem?_map, ea]; rfl)
        · have z := q X' pS
          rw [gm, ea] at z
          exact z
      · rw [decide_eq_false (show ¬ e < ((b.1.length * b.2 : Nat) : Int) by omega)]
        refine iteF ?_
        refine ⟨_, rfl, _, rfl, ab, _, rfl, .inl (SqL.of hA), _, rfl, _, _, rfl, rfl, wm, _, _, rfl, rfl, ?_⟩
        refine ⟨⟨_, _, _, j - b.1.length * b.2, rfl, ?_, ?_⟩, pS⟩
        · rw [e2, ee]
          omega
        · rw [wr_take hb]
          omega
    · obtain ⟨⟨x2, x3, e, j, rfl, ee, ej⟩, pS⟩ := pw
      have z := q X pS
      rw [← pair_len pr, List.take_length] at ej
      rw [List.getElem?_eq_none (by omega)] at z
      exact z
end
end LA
end
section
set_option Elab.async false
set_option linter.all false
set_option maxRecDepth 100000
set_option maxHeartbeats 4100000
namespace LA
open PySem L2 XS XT LM XV XO
section
variable {P : Program} {w : World} {K : PySem.W.Frag} {mg : Str → Option Value} {base : Heap} {C : Addr}
abbrev rLst (K : PySem.W.Frag) : List V → Hp → VK → Prop := fun xs H Q => ∃ p ys, xs = [.ref p] ∧ (SqL K H p ys ∨ SqT K H p ys) ∧ ∀ l, H l = none → Q (.ref l) (upd H l (.lst ys))
/-- lwritten of one line -/
def spLW : Sp := fun vs H Q _ => ∃ (p : Addr) (y : Str), vs = [.ref p] ∧ LBs H p [([y], 1)] ∧ ∀ (r : Addr) (H' : Hp), H' r = some (.lst [.str y]) → Same H H' → Q (.ref r) H'
theorem scLW : FnScope ["_law_blocks", "_law_rows", "_law_times"] ["_law_blocks"] (defScope sLW) := ⟨rfl, rfl, rfl, by decide +kernel, rfl, by decide +kernel, by decide +kernel⟩
theorem ok_LW {f : Addr} {fd : FuncData} (F : Fun K "_law_lwritten" "_law_lwritten" sLW f fd) (mL : mg "list" = none) (mS : mg "sum" = none) : FnOk P w K mg base CX0 1 f fd ["_law_blocks"] spLW := by
  refine F.ok scLW (fun vs H Q E h => ?_) (fun cdv A outer s H vs Q E hr h => ?_)
  · obtain ⟨p, y, rfl, _⟩ := h
    rfl
  · obtain ⟨p, y, rfl, ⟨us, hp, pr⟩, q⟩ := h
    refine ⟨_, pss_one (by exact (ps_ret (pe_callB (cr_sumL rfl) (by rfl) mS (by decide +kernel) (pa_cons (pe_lc (own := [("_law_rows", 1), ("_law_times", 2)]) (g := gTup K 2 (gCons (gName 1) (gCons (gName 2) gNil))) (tt := tYes) (te := tOp rRep (tCB (rLst K) (tCons (tVar 1) tNil)) (tVar 2)) rfl scLW.nd (pi_list (pv 0))
        (blkOk_by (N := ["_law_blocks", "_law_rows", "_law_times"]) (sc := defScope sLW) (by decide +kernel))
        (fun _ _ _ _ _ => by exact (pg_tup rfl (pgs_cons (by exact (pg_name (i := 1) scLW.nd rfl (Or.inl rfl))) (pgs_cons (by exact (pg_name (i := 2) scLW.nd rfl (Or.inl rfl))) pgs_nil))))
        (fun _ _ _ _ _ => by exact pts_nil)
        (fun _ _ _ _ _ => by exact (pe_op op_rep (pe_callTy call_list_of (by rfl) mL (by decide +kernel) (pa_cons (pv 1) pa_nil)) (pv 2)))) (pa_cons (pe_lst pa_nil) pa_nil))))), ?_⟩
    refine ⟨_, rfl, p, rfl, ⟨_, SqL.of hp⟩, fun DD nD => ?_⟩
    have ul : us.length = 1 := (pair_len pr).symm
    refine lc_it (walk_list (K := K) (a := p) (xs := us)) (fun i Y => (∃ ps : List (Addr × List V), Y DD = some (.lst (ps.map fun p => .ref p.1)) ∧ ps.length = i ∧ ∀ p ∈ ps, p.1 ≠ DD ∧ Y p.1 = some (.lst p.2) ∧ p.2 = [.str y]) ∧ Same H Y) ⟨⟨[], upd_same, rfl, fun _ h => absurd h List.not_mem_nil⟩, same_upd nD⟩ (fun i Y _ p => SqL.of (p.2 _ _ hp)) (fun i x Y Y' hi p yl => ?_) (fun Y p => ?_)
    · obtain ⟨⟨ps, pD, pl, pa⟩, pS⟩ := p
      obtain ⟨rfl, hx⟩ := yl
      obtain ⟨b, hb, tb, ab, rfl, h1, h2⟩ := pair_at pr hx
      have i0 : i = 0 := by omega
      subst i0
      have eb : b = ([y], 1) := by
        rw [List.getElem?_cons_zero] at hb
        exact (Option.some.inj hb).symm
      subst eb
      refine ⟨tb, _, rfl, SqT.of (pS _ _ h1), rfl, _, _, rfl, _, _, rfl, rfl, rfl, ?_⟩
      dsimp only [tYes]
      rw [if_pos rfl]
      refine ⟨_, rfl, ab, _, rfl, .inl (SqL.of (pS _ _ h2)), fun l1 n1 => ⟨_, rfl, l1, 1, _, rfl, rfl, upd_same, by decide, by decide, by show 1 * 1 ≤ sizeLine; decide, fun l2 n2 => ?_⟩⟩
      have s1 := same_upd (o := .lst [.str y]) n1
      have s2 := same_upd (o := .lst (List.replicate (1 : Int).toNat [V.str y]).flatten) n2
      have nl2 : l2 ≠ DD := (ne_of_none (s1 _ _ pD) n2).symm
      have e0 : ps = [] := List.eq_nil_of_length_eq_zero pl
      subst e0
      refine ⟨_, (s2 _ _ (s1 _ _ pD)), (by show 0 < sizeLine; decide), ⟨[(l2, [.str y])], upd_same, rfl, fun p hp => ?_⟩, fun c o e => ?_⟩
      · rw [List.mem_singleton] at hp
        subst hp
        exact ⟨nl2, by rw [upd_ne nl2]; exact upd_same, rfl⟩
      · rw [upd_ne (ne_of_none e nD)]
        exact s2 _ _ (s1 _ _ (pS _ _ e))
    · obtain ⟨⟨ps, pD, pl, pa⟩, pS⟩ := p
      refine ⟨(by show 0 ≤ sizeLine; decide), fun B nB => ?_⟩
      have sB := same_upd (o := .lst []) nB
      obtain ⟨q0, rfl⟩ : ∃ q0, ps = [q0] := List.length_eq_one_iff.mp (pl.trans ul)
      obtain ⟨n0, h0, e0⟩ := pa q0 (List.mem_cons_self ..)
      have ef : ([] : List V) ++ (([q0].map (·.2)).flatten) = [.str y] := by
        show q0.2 ++ [] = _
        rw [List.append_nil, e0]
      refine ⟨DD, B, [q0], [], rfl, sB _ _ pD, upd_same, Nat.one_pos, fun p hp => ?_, ?_, fun r nr => ?_⟩
      · rw [List.mem_singleton] at hp
        subst hp
        exact sB _ _ h0
      · show 0 + (q0.2 ++ []).length ≤ sizeLine
        rw [List.append_nil, e0]
        show 1 ≤ sizeLine
        decide
      · rw [ef]
        exact q r _ upd_same ((pS.trans sB).trans (same_upd nr))
end
end LA
end
section
set_option Elab.async false
set_option linter.all false
set_option maxRecDepth 100000
set_option maxHeartbeats 4100000
namespace LA
open PySem L2 XS XT LM XV XO
abbrev sSpl : Stmt := top 40
theorem cut_lo (ys : List Str) (k : Nat) : cutV (ys.map V.str) none (some (k : Int)) = (ys.take k).map V.str := by
  unfold cutV
  rw [HT.sIx_nat, HT.sIx_none, List.drop_zero, List.length_map, Nat.sub_zero, ← List.map_take]
  congr 1
  rw [List.take_eq_take_iff]
  omega
theorem cut_hi (ys : List Str) (k : Nat) (h : k ≤ ys.length) : cutV (ys.map V.str) (some (k : Int)) none = (ys.drop k).map V.str := by
  unfold cutV
  rw [HT.sIx_nat, HT.sIx_none, List.length_map, Nat.min_eq_left h, ← List.map_drop, ← List.map_take, List.take_of_length_le (by rw [List.length_drop]; omega)]
/-- a block whose lines are some of b's -/
theorem Vb.part {b : Bk Str} (h : Vb b) {rs : List Str} {t : Nat} (l1 : 1 ≤ rs.length) (l4 : rs.length ≤ 4) (t1 : 1 ≤ t) (t30 : t ≤ 10 ^ 30) (sub : ∀ y ∈ rs, y ∈ b.1) : Vb (rs, t) := ⟨l1, l4, t1, t30, fun z hz => h.ok z (sub z hz)⟩
/-- the same lines, cut in another way -/
structure Cut (b : Bk Str) (cs : List (Bk Str)) : Prop where
  ok : ∀ c ∈ cs, Vb c
  wr : wr cs = one b
  few : cs.length ≤ 3
theorem cut_0 {b : Bk Str} (v : Vb b) {f : Nat} (h1 : 1 ≤ f) (h2 : f < b.2) : Cut b [(b.1, f), (b.1, b.2 - f)] := by
  have t30 := v.t30
  refine ⟨fun c hc => ?_, ?_, by show 2 ≤ 3; decide⟩
  · rcases List.mem_cons.mp hc with e | hc
    · subst e
      exact v.part v.l1 v.l4 h1 (by omega) (fun _ h => h)
    · rw [List.mem_singleton] at hc
      subst hc
      exact v.part v.l1 v.l4 (by omega) (by omega) (fun _ h => h)
  · rw [wr_cons, wr_cons, wr_nil, List.append_nil, one_add, show f + (b.2 - f) = b.2 by omega]
theorem cut_1 {b : Bk Str} (v : Vb b) (h3 : b.1.length < 3) (h1 : 1 < b.2) : Cut b ((b.1 ++ b.1, b.2 / 2) :: List.replicate (b.2 % 2) (b.1, 1)) := by
  have t30 := v.t30
  have l1 := v.l1
  refine ⟨fun c hc => ?_, ?_, ?_⟩
  · rcases List.mem_cons.mp hc with e | hc
    · subst e
      refine v.part (by rw [List.length_append]; omega) (by rw [List.length_append]; omega) (by omega) (by omega) (fun y h => ?_)
      rcases List.mem_append.mp h with h | h <;> exact h
    · have e := List.eq_of_mem_replicate hc
      subst e
      exact v.part v.l1 v.l4 (by decide) (by decide) (fun _ h => h)
  · rcases Nat.mod_two_eq_zero_or_one b.2 with m | m
    · rw [m, List.replicate_zero, wr_cons, wr_nil, List.append_nil, one_two, show 2 * (b.2 / 2) = b.2 by omega]
    · rw [m, show List.replicate 1 (b.1, 1) = [(b.1, 1)] from rfl, wr_cons, wr_cons, wr_nil, List.append_nil, one_two, one_add, show 2 * (b.2 / 2) + 1 = b.2 by omega]
  · rw [List.length_cons, List.length_replicate]
    omega
theorem cut_2 {b : Bk Str} (v : Vb b) {k : Nat} (h1 : 1 ≤ k) (h2 : k < b.1.length) (h3 : 1 < b.2) : Cut b [(b.1.take k, 1), (b.1.drop k ++ b.1.take k, b.2 - 1), (b.1.drop k, 1)] := by
  have t30 := v.t30
  have l4 := v.l4
  have lt : (b.1.take k).length = k := by rw [List.length_take]; omega
  have ld : (b.1.drop k).length = b.1.length - k := List.length_drop
  have mt : ∀ y ∈ b.1.take k, y ∈ b.1 := fun y h => List.mem_of_mem_take h
  have md : ∀ y ∈ b.1.drop k, y ∈ b.1 := fun y h => List.mem_of_mem_drop h
  refine ⟨fun c hc => ?_, ?_, by show 3 ≤ 3; decide⟩
  · rcases List.mem_cons.mp hc with e | hc
    · subst e
      exact v.part (by omega) (by omega) (by decide) (by decide) mt
    · rcases List.mem_cons.mp hc with e | hc
      · subst e
        refine v.part (by rw [List.length_append]; omega) (by rw [List.length_append]; omega) (by omega) (by omega) (fun y h => ?_)
        rcases List.mem_append.mp h with h | h
        · exact md y h
        · exact mt y h
      · rw [List.mem_singleton] at hc
        subst hc
        exact v.part (by omega) (by omega) (by decide) (by decide) md
  · rw [wr_cons, wr_cons, wr_cons, wr_nil, List.append_nil, one_one, one_one, ← List.append_assoc, one_turn, List.take_append_drop, show b.2 - 1 + 1 = b.2 by omega]
theorem cut_3 {b : Bk Str} (v : Vb b) (h3 : 1 < b.2) : Cut b [(b.1, 1), (b.1, b.2 - 1)] := cut_0 v (Nat.le_refl 1) h3
theorem cut_4 {b : Bk Str} (v : Vb b) : Cut b [b] := ⟨fun c hc => by rw [List.mem_singleton] at hc; exact hc ▸ v, by rw [wr_cons, wr_nil, List.append_nil], by show 1 ≤ 3; decide⟩
end LA
end
section
set_option Elab.async false
set_option linter.all false
set_option maxRecDepth 100000
set_option maxHeartbeats 4100000
namespace LA
open PySem L2 XS XT LM XV XO
section
variable {P : Program} {w : World} {K : PySem.W.Frag} {mg : Str → Option Value} {base : Heap} {C : Addr}
/-- lsplit -/
def spSpl : Sp := fun vs H Q _ => ∃ (d c : Addr) (n : Int) (ns : List Int) (v : V) (b : Bk Str), vs = [.ref d, v] ∧ PenAt H d c n ns ∧ n + 40 < 1000000 ∧ BkL H b v ∧ Vb b ∧
  ∀ (p : Addr) (cs : List (Bk Str)) (H' : Hp), Cut b cs → LBs H' p cs → PenAt H' d c (n + 40) ns → But d H H' → Q (.ref p) H'
theorem scSpl : FnScope ["_law_pen_here", "_law_one", "_law_rows", "_law_times", "_law_way", "_law_few_here", "_law_k"] ["_law_pen_here", "_law_one"] (defScope sSpl) := ⟨rfl, rfl, rfl, by decide +kernel, rfl, by decide +kernel, by decide +kernel⟩
theorem penKeep {H H' : Hp} {d c : Addr} {n m : Int} {ns : List Int} (p : PenAt H d c n ns) (s : Same H H') (h : n ≤ m) : PenAt H' d c m ns := (p.keep s).le h
theorem mk2 {X : Hp} {a1 a2 p r1 r2 : Addr} {x1 x2 : Int} {b1 b2 : Bk Str} (h1 : X r1 = some (.lst (b1.1.map V.str))) (h2 : X r2 = some (.lst (b2.1.map V.str))) (e1 : x1 = (b1.2 : Int)) (e2 : x2 = (b2.2 : Int)) (n1 : X a1 = none) (n2 : upd X a1 (.tup [.ref r1, .int x1]) a2 = none)
    (np : upd (upd X a1 (.tup [.ref r1, .int x1])) a2 (.tup [.ref r2, .int x2]) p = none) : LBs (upd (upd (upd X a1 (.tup [.ref r1, .int x1])) a2 (.tup [.ref r2, .int x2])) p (.lst [.ref a1, .ref a2])) p [b1, b2] ∧ Same X (upd (upd (upd X a1 (.tup [.ref r1, .int x1])) a2 (.tup [.ref r2, .int x2])) p (.lst [.ref a1, .ref a2])) := by
  subst e1 e2
  have s1 := same_upd (o := .tup [.ref r1, .int (b1.2 : Int)]) n1
  have s2 := same_upd (o := .tup [.ref r2, .int (b2.2 : Int)]) n2
  have s3 := same_upd (o := .lst [.ref a1, .ref a2]) np
  have s13 := (s1.trans s2).trans s3
  exact ⟨⟨_, upd_same, .cons ⟨a1, r1, rfl, s3 _ _ (s2 _ _ upd_same), s13 _ _ h1⟩ (.cons ⟨a2, r2, rfl, s3 _ _ upd_same, s13 _ _ h2⟩ .nil)⟩, s13⟩
theorem ok_spl {f f1 f2 : Addr} {fd fd1 fd2 : FuncData} (F : Fun K "_law_lsplit" "_law_lsplit" sSpl f fd) (mL : mg "len" = none) (mI : mg "int" = none) (DR : DrawAt P w K mg base f1 fd1) (GR : CallOf P w K mg base 2 "_law_great" ["_law_pen_here", "_law_digits"] spGreat f2 fd2) :
    FnOk P w K mg base CX0 3 f fd ["_law_pen_here", "_law_one"] spSpl := by
  refine F.ok scSpl (fun vs H Q E h => ?_) (fun cdv A outer s H vs Q E hr h => ?_)
  · obtain ⟨d, c, n, ns, v, b, rfl, _⟩ := h
    rfl
  · obtain ⟨d, c, n, ns, v, b, rfl, pen, hn, ⟨t0, r0, rfl, ht0, hr0⟩, vb, q⟩ := h
    have hr1 : Room 1 _ := hr.mono (by decide)
    refine ⟨_, pss_cons (by exact (ps_asg (pv 1) (pg_tup rfl (pgs_cons (by exact (pg_name (i := 2) scSpl.nd rfl (Or.inl rfl))) (pgs_cons (by exact (pg_name (i := 3) scSpl.nd rfl (Or.inl rfl))) pgs_nil)))))
      (pss_cons (by exact (ps_set (i := 4) scSpl.nd rfl (.inl rfl) (pe_call DR.ok hr1 rfl DR.m DR.k DR.b .nil pass0 (pa_cons (pv 0) (pa_cons pe_int pa_nil)))))
      (pss_cons (by exact (ps_if (PW.pt (pw_and (pt_cmpR op_eq (pv 4) pe_int (nomark _)) (pw_and1 (pt_cmpR op_gt (pv 3) pe_int (nomark _))))) (pss_cons (by exact (ps_set (i := 5) scSpl.nd rfl (.inl rfl) (pe_op op_add pe_int (pe_op op_mod (pe_callTy call_int1 (by rfl) mI (by decide +kernel) (pa_cons (pe_call GR.ok hr rfl GR.m GR.k GR.b .nil pass0 (pa_cons (pv 0) (pa_cons pe_int pa_nil))) pa_nil)) (pe_op op_sub (pv 3) pe_int)))))
      (pss_one (by exact (ps_ret (pe_lst (pa_cons (pe_tup (pa_cons (pv 2) (pa_cons (pv 5) pa_nil))) (pa_cons (pe_tup (pa_cons (pv 2) (pa_cons (pe_op op_sub (pv 3) (pv 5)) pa_nil))) pa_nil))))))) pss_nil))
      (pss_cons (by exact (ps_if (PW.pt (pw_and (pt_cmpR op_eq (pv 4) pe_int (nomark _)) (pw_and (pt_cmpR op_lt (pe_callB call_len_seq (by rfl) mL PySem.boot_len (pa_cons (pv 2) pa_nil)) pe_int (nomark _)) (pw_and1 (pt_cmpR op_gt (pv 3) pe_int (nomark _)))))) (pss_one (by exact (ps_ret (pe_op op_cat (pe_lst (pa_cons (pe_tup (pa_cons (pe_op op_rep (pv 2) pe_int) (pa_cons (pe_op op_fdiv (pv 3) pe_int) pa_nil))) pa_nil)) (pe_op op_rep (pe_lst (pa_cons (pe_tup (pa_cons (pv 2) (pa_cons pe_int pa_nil))) pa_nil)) (pe_op op_mod (pe_callTy call_int1 (by rfl) mI (by decide +kernel) (pa_cons (pv 3) pa_nil)) pe_int)))))) pss_nil))
      (pss_cons (by exact (ps_if (PW.pt (pw_and (pt_cmpR op_eq (pv 4) pe_int (nomark _)) (pw_and (pt_cmpR op_gt (pe_callB call_len_seq (by rfl) mL PySem.boot_len (pa_cons (pv 2) pa_nil)) pe_int (nomark _)) (pw_and1 (pt_cmpR op_gt (pv 3) pe_int (nomark _)))))) (pss_cons (by exact (ps_set (i := 6) scSpl.nd rfl (.inl rfl) (pe_op op_add pe_int (pe_call DR.ok hr1 rfl DR.m DR.k DR.b .nil pass0 (pa_cons (pv 0) (pa_cons (pe_op op_sub (pe_callB call_len_seq (by rfl) mL PySem.boot_len (pa_cons (pv 2) pa_nil)) pe_int) pa_nil))))))
      (pss_one (by exact (ps_ret (pe_lst (pa_cons (pe_tup (pa_cons (pe_slice sl_list (pv 2) po_none (po_some (pv 6))) (pa_cons pe_int pa_nil))) (pa_cons (pe_tup (pa_cons (pe_op op_cat (pe_slice sl_list (pv 2) (po_some (pv 6)) po_none) (pe_slice sl_list (pv 2) po_none (po_some (pv 6)))) (pa_cons (pe_op op_sub (pv 3) pe_int) pa_nil))) (pa_cons (pe_tup (pa_cons (pe_slice sl_list (pv 2) (po_some (pv 6)) po_none) (pa_cons pe_int pa_nil))) pa_nil)))))))) pss_nil))
      (pss_one (by exact (ps_ret (pe_ifExp (PW.pt (pw_and (pt_cmpR op_eq (pv 4) pe_int (nomark _)) (pw_and1 (pt_cmpR op_gt (pv 3) pe_int (nomark _))))) (pe_lst (pa_cons (pe_tup (pa_cons (pv 2) (pa_cons pe_int pa_nil))) (pa_cons (pe_tup (pa_cons (pv 2) (pa_cons (pe_op op_sub (pv 3) pe_int) pa_nil))) pa_nil))) (pe_lst (pa_cons (pv 1) pa_nil)))))))))), ?_⟩
    refine ⟨_, rfl, t0, _, rfl, SqT.of ht0, rfl, _, _, rfl, _, _, rfl, rfl, ?_⟩
    refine ⟨_, rfl, d, c, n, ns, 5, rfl, pen, by omega, by decide, by decide, fun r X r0' r5 pX bX => ?_⟩
    have kt0 := bX _ _ ht0 (fun z => pen.nT _ (z ▸ ht0))
    have kr0 := bX _ _ hr0 (fun z => pen.nL _ (z ▸ hr0))
    have n0 := pen.n0
    have t30 := vb.t30
    have t1 := vb.t1
    have l1 := vb.l1
    have l4 := vb.l4
    have e1 : ((b.1.map V.str).length : Int) = (b.1.length : Int) := by rw [List.length_map]
    have fin : ∀ p, X p = none → Q (.ref p) (upd X p (.lst [.ref t0])) := fun p np =>
      q p [b] _ (cut_4 vb) ⟨_, upd_same, .cons ⟨t0, r0, rfl, same_upd np _ _ kt0, same_upd np _ _ kr0⟩ .nil⟩ (penKeep pX (same_upd np) (by omega)) (bX.trans (But.same (same_upd np)))
    rcases (show r = 0 ∨ r = 1 ∨ r = 2 ∨ r = 3 ∨ r = 4 by omega) with rfl | rfl | rfl | rfl | rfl
    · refine ⟨_, rfl, rfl, _, rfl, iteT ⟨_, rfl, _, _, rfl, rfl, _, rfl, ?_⟩⟩
      by_cases c1 : 1 < b.2
      · rw [decide_eq_true (show (1 : Int) < (b.2 : Int) by omega)]
        refine iteT ?_
        refine ⟨_, rfl, d, c, n + 1, ns, 30, rfl, pX, by omega, by decide, fun g X1 hg p1 b1 => .inl ⟨_, rfl, _, rfl, _, _, rfl, rfl, _, _, rfl, rfl, (by omega : (0 : Int) < (b.2 : Int) - 1), _, _, rfl, rfl, ?_⟩⟩
        have eg : (1 : Int) + (g : Int) % ((b.2 : Int) - 1) = ((1 + g % (b.2 - 1) : Nat) : Int) := by
          have z : (g : Int) % ((b.2 - 1 : Nat) : Int) = ((g % (b.2 - 1) : Nat) : Int) := rfl
          rw [show (b.2 : Int) - 1 = ((b.2 - 1 : Nat) : Int) by omega, z]
          omega
        have lg : g % (b.2 - 1) < b.2 - 1 := Nat.mod_lt _ (by omega)
        have kr1 := b1 _ _ kr0 (fun z => pX.nL _ (z ▸ kr0))
        generalize g % (b.2 - 1) = f at eg lg
        refine ⟨_, rfl, _, rfl, (by show 2 ≤ sizeLine; decide), fun a1 n1 => ⟨_, rfl, _, rfl, _, rfl, _, _, rfl, rfl, (by show 2 ≤ sizeLine; decide), fun a2 n2 => ⟨(by show 2 ≤ sizeLine; decide), fun p np => ?_⟩⟩⟩
        obtain ⟨lb, sm⟩ := mk2 (b1 := (b.1, 1 + f)) (b2 := (b.1, b.2 - (1 + f))) kr1 kr1 eg (by show (b.2 : Int) - _ = ((b.2 - (1 + f) : Nat) : Int); rw [eg]; omega) n1 n2 np
        exact q p _ _ (cut_0 vb (by omega) (by omega)) lb (penKeep p1 sm (by omega)) ((bX.trans b1).trans (But.same sm))
      · rw [decide_eq_false (show ¬ (1 : Int) < (b.2 : Int) by omega)]
        refine iteF ⟨_, rfl, rfl, _, rfl, iteF (iteF ⟨_, rfl, rfl, _, rfl, iteF (iteF ⟨_, rfl, rfl, _, rfl, iteF (iteF ⟨_, rfl, (by show 1 ≤ sizeLine; decide), fin⟩)⟩)⟩)⟩
    · refine ⟨_, rfl, rfl, _, rfl, iteF (iteF ⟨_, rfl, rfl, _, rfl, iteT ⟨_, rfl, r0, _, rfl, .inl (SqL.of kr0), _, _, rfl, rfl, _, rfl, ?_⟩⟩)⟩
      rw [e1]
      by_cases c0 : b.1.length < 3
      · rw [decide_eq_true (show (b.1.length : Int) < 3 by omega)]
        refine iteT ⟨_, rfl, _, _, rfl, rfl, _, rfl, ?_⟩
        by_cases c1 : 1 < b.2
        · rw [decide_eq_true (show (1 : Int) < (b.2 : Int) by omega)]
          refine iteT ?_
          have hl : (b.1.map V.str).length = b.1.length := List.length_map ..
          refine ⟨_, rfl, r0, 2, _, rfl, rfl, kr0, by decide, by decide, ?_, fun g1 ng1 => ⟨_, rfl, _, _, rfl, rfl, ⟨by decide, by decide⟩, (by show 2 ≤ sizeLine; decide), fun a1 n1 => ⟨(by show 1 ≤ sizeLine; decide), fun p1 np1 => ?_⟩⟩⟩
          · rw [hl]
            exact Nat.le_trans (Nat.mul_le_mul_right 2 (Nat.le_of_lt c0)) (by decide : 3 * 2 ≤ sizeLine)
          refine ⟨_, rfl, (by show 2 ≤ sizeLine; decide), fun a2 n2 => ⟨(by show 1 ≤ sizeLine; decide), fun p2 np2 => ⟨_, rfl, .inl ⟨_, rfl, _, _, rfl, rfl, (show (0 : Int) < 2 by decide), p2, _, _, rfl, rfl, upd_same, by omega, by omega, ?_, fun p3 np3 => ?_⟩⟩⟩⟩
          · show 1 * ((b.2 : Int) % 2).toNat ≤ sizeLine
            exact Nat.le_trans (by omega) (by decide : 1 ≤ sizeLine)
          have er : (List.replicate (2 : Int).toNat (b.1.map V.str)).flatten = ((b.1 ++ b.1).map V.str) := by
            rw [List.map_append]
            show b.1.map V.str ++ (b.1.map V.str ++ []) = _
            rw [List.append_nil]
          rw [er] at n1 np1 n2 np2 np3 ⊢
          have em : ((b.2 : Int) % 2).toNat = b.2 % 2 := by omega
          rw [em]
          dsimp only at n1 np1 n2 np2 np3 ⊢
          have ed : (b.2 : Int) / 2 = ((b.2 / 2 : Nat) : Int) := by omega
          rw [ed] at np1 n2 np2 np3 ⊢
          have s1 := same_upd (o := .lst ((b.1 ++ b.1).map V.str)) ng1
          have s2 := same_upd (o := .tup [.ref g1, .int ((b.2 / 2 : Nat) : Int)]) n1
          have s3 := same_upd (o := .lst [.ref a1]) np1
          have s4 := same_upd (o := .tup [.ref r0, .int 1]) n2
          have s5 := same_upd (o := .lst [.ref a2]) np2
          have s6 := same_upd (o := .lst (List.replicate (b.2 % 2) [V.ref a2]).flatten) np3
          have ef : (List.replicate (b.2 % 2) [V.ref a2]).flatten = List.replicate (b.2 % 2) (V.ref a2) := by
            rcases Nat.mod_two_eq_zero_or_one b.2 with m | m <;> rw [m] <;> rfl
          refine ⟨p1, p3, _, _, rfl, rfl, s6 _ _ (s5 _ _ (s4 _ _ upd_same)), upd_same, ?_, fun p np => ?_⟩
          · rw [ef, List.length_replicate]
            show 1 + b.2 % 2 ≤ sizeLine
            exact Nat.le_trans (by omega) (by decide : 2 ≤ sizeLine)
          · rw [ef] at np ⊢
            have s7 := same_upd (o := .lst ([.ref a1] ++ List.replicate (b.2 % 2) (V.ref a2))) np
            rw [ef] at s6
            have s57 := (s5.trans s6).trans s7
            have sm := ((((s1.trans s2).trans s3).trans s4).trans s57)
            refine q p _ _ (cut_1 vb c0 c1) ⟨_, upd_same, .cons ⟨a1, g1, rfl, s57 _ _ (s4 _ _ (s3 _ _ upd_same)), s57 _ _ (s4 _ _ (s3 _ _ (s2 _ _ upd_same)))⟩ ?_⟩ (penKeep pX sm (by omega)) (bX.trans (But.same sm))
            rcases Nat.mod_two_eq_zero_or_one b.2 with m | m
            · rw [m]
              exact .nil
            · rw [m] at s57 sm ⊢
              exact .cons ⟨a2, r0, rfl, s57 _ _ upd_same, sm _ _ kr0⟩ .nil
        · rw [decide_eq_false (show ¬ (1 : Int) < (b.2 : Int) by omega)]
          exact iteF ⟨_, rfl, rfl, _, rfl, iteF (iteF ⟨_, rfl, rfl, _, rfl, iteF (iteF ⟨_, rfl, (by show 1 ≤ sizeLine; decide), fin⟩)⟩)⟩
      · rw [decide_eq_false (show ¬ (b.1.length : Int) < 3 by omega)]
        exact iteF (iteF ⟨_, rfl, rfl, _, rfl, iteF (iteF ⟨_, rfl, rfl, _, rfl, iteF (iteF ⟨_, rfl, (by show 1 ≤ sizeLine; decide), fin⟩)⟩)⟩)
    · refine ⟨_, rfl, rfl, _, rfl, iteF (iteF ⟨_, rfl, rfl, _, rfl, iteF (iteF ⟨_, rfl, rfl, _, rfl, iteT ⟨_, rfl, r0, _, rfl, .inl (SqL.of kr0), _, _, rfl, rfl, _, rfl, ?_⟩⟩)⟩)⟩
      rw [e1]
      by_cases c0 : 1 < b.1.length
      · rw [decide_eq_true (show (1 : Int) < (b.1.length : Int) by omega)]
        refine iteT ⟨_, rfl, _, _, rfl, rfl, _, rfl, ?_⟩
        by_cases c1 : 1 < b.2
        · rw [decide_eq_true (show (1 : Int) < (b.2 : Int) by omega)]
          refine iteT ?_
          have hl : (b.1.map V.str).length = b.1.length := List.length_map ..
          refine ⟨_, rfl, _, rfl, r0, _, rfl, .inl (SqL.of kr0), _, _, rfl, rfl, d, c, n + 1, ns, _, rfl, pX, by omega, by rw [hl]; omega, by rw [hl]; omega, fun g X1 g0 gl p1 bb => ⟨_, _, rfl, rfl, ?_⟩⟩
          rw [hl] at gl
          obtain ⟨k, ek, k1, k2⟩ : ∃ k : Nat, (1 : Int) + g = (k : Int) ∧ 1 ≤ k ∧ k < b.1.length := ⟨(1 + g).toNat, by omega, by omega, by omega⟩
          have kr1 := bb _ _ kr0 (fun z => pX.nL _ (z ▸ kr0))
          simp only [ek]
          have cl := cut_lo b.1 k
          have ch := cut_hi b.1 k (Nat.le_of_lt k2)
          refine ⟨_, rfl, _, rfl, _, rfl, r0, _, rfl, SqL.of kr1, fun g1 m1 => ⟨(by show 2 ≤ sizeLine; decide), fun a1 n1 => ?_⟩⟩
          rw [cl] at n1 ⊢
          have s1 := same_upd (o := .lst ((b.1.take k).map V.str)) m1
          have s2 := same_upd (o := .tup [.ref g1, .int 1]) n1
          have kr2 := s2 _ _ (s1 _ _ kr1)
          refine ⟨_, rfl, _, rfl, _, rfl, r0, _, rfl, SqL.of kr2, fun g2 m2 => ?_⟩
          rw [ch]
          have s3 := same_upd (o := .lst ((b.1.drop k).map V.str)) m2
          have kr3 := s3 _ _ kr2
          refine ⟨_, rfl, _, rfl, _, rfl, r0, _, rfl, SqL.of kr3, fun g3 m3 => ?_⟩
          rw [cl]
          have s4 := same_upd (o := .lst ((b.1.take k).map V.str)) m3
          refine ⟨g2, g3, _, _, rfl, rfl, s4 _ _ upd_same, upd_same, ?_, fun g4 m4 => ?_⟩
          · rw [List.length_map, List.length_map, List.length_drop, List.length_take]
            exact Nat.le_trans (by omega) (by decide : 4 ≤ sizeLine)
          have s5 := same_upd (o := .lst ((b.1.drop k).map V.str ++ (b.1.take k).map V.str)) m4
          refine ⟨_, rfl, _, _, rfl, rfl, (by show 2 ≤ sizeLine; decide), fun a2 n2 => ?_⟩
          have s6 := same_upd (o := .tup [.ref g4, .int ((b.2 : Int) - 1)]) n2
          have kr6 := s6 _ _ (s5 _ _ (s4 _ _ kr3))
          refine ⟨_, rfl, _, rfl, _, rfl, r0, _, rfl, SqL.of kr6, fun g5 m5 => ⟨(by show 2 ≤ sizeLine; decide), fun a3 n3 => ⟨(by show 3 ≤ sizeLine; decide), fun p np => ?_⟩⟩⟩
          rw [ch] at n3 np ⊢
          have s7 := same_upd (o := .lst ((b.1.drop k).map V.str)) m5
          have s8 := same_upd (o := .tup [.ref g5, .int 1]) n3
          have s9 := same_upd (o := .lst [.ref a1, .ref a2, .ref a3]) np
          have s79 := (s7.trans s8).trans s9
          have s39 := ((s3.trans s4).trans (s5.trans s6)).trans s79
          have sm := (s1.trans s2).trans s39
          refine q p _ _ (cut_2 vb k1 k2 c1) ⟨_, upd_same, .cons ⟨a1, g1, rfl, s39 _ _ upd_same, s39 _ _ (s2 _ _ upd_same)⟩ (.cons ⟨a2, g4, rfl, ?_, ?_⟩ (.cons ⟨a3, g5, rfl, s9 _ _ upd_same, s9 _ _ (s8 _ _ upd_same)⟩ .nil))⟩ (penKeep p1 sm (by omega)) ((bX.trans bb).trans (But.same sm))
          · have e9 : (b.2 : Int) - 1 = ((b.2 - 1 : Nat) : Int) := by omega
            rw [← e9]
            exact s79 _ _ upd_same
          · rw [List.map_append]
            exact s79 _ _ (s6 _ _ upd_same)
        · rw [decide_eq_false (show ¬ (1 : Int) < (b.2 : Int) by omega)]
          exact iteF ⟨_, rfl, rfl, _, rfl, iteF (iteF ⟨_, rfl, (by show 1 ≤ sizeLine; decide), fin⟩)⟩
      · rw [decide_eq_false (show ¬ (1 : Int) < (b.1.length : Int) by omega)]
        exact iteF (iteF ⟨_, rfl, rfl, _, rfl, iteF (iteF ⟨_, rfl, (by show 1 ≤ sizeLine; decide), fin⟩)⟩)
    · refine ⟨_, rfl, rfl, _, rfl, iteF (iteF ⟨_, rfl, rfl, _, rfl, iteF (iteF ⟨_, rfl, rfl, _, rfl, iteF (iteF ⟨_, rfl, rfl, _, rfl, iteT ⟨_, rfl, _, _, rfl, rfl, _, rfl, ?_⟩⟩)⟩)⟩)⟩
      by_cases c1 : 1 < b.2
      · rw [decide_eq_true (show (1 : Int) < (b.2 : Int) by omega)]
        refine iteT ⟨_, rfl, (by show 2 ≤ sizeLine; decide), fun a1 n1 => ⟨_, rfl, _, rfl, _, _, rfl, rfl, (by show 2 ≤ sizeLine; decide), fun a2 n2 => ⟨(by show 2 ≤ sizeLine; decide), fun p np => ?_⟩⟩⟩
        obtain ⟨lb, sm⟩ := mk2 (b1 := (b.1, 1)) (b2 := (b.1, b.2 - 1)) kr0 kr0 rfl (by show (b.2 : Int) - 1 = ((b.2 - 1 : Nat) : Int); omega) n1 n2 np
        exact q p _ _ (cut_3 vb c1) lb (penKeep pX sm (by omega)) (bX.trans (But.same sm))
      · rw [decide_eq_false (show ¬ (1 : Int) < (b.2 : Int) by omega)]
        exact iteF ⟨_, rfl, (by show 1 ≤ sizeLine; decide), fin⟩
    · exact ⟨_, rfl, rfl, _, rfl, iteF (iteF ⟨_, rfl, rfl, _, rfl, iteF (iteF ⟨_, rfl, rfl, _, rfl, iteF (iteF ⟨_, rfl, rfl, _, rfl, iteF (iteF ⟨_, rfl, (by show 1 ≤ sizeLine; decide), fin⟩)⟩)⟩)⟩)⟩
end
end LA
end
section
set_option Elab.async false
set_option linter.all false
set_option maxRecDepth 100000
set_option maxHeartbeats 4100000
namespace LA
open PySem L2 XS XT LM XV XO
def datB (b : Bk Str) : PyData := .tuple [.list (b.1.map PyData.str), .int (b.2 : Int)]
theorem dp_strs {K : PySem.W.Frag} {H : Hp} : ∀ ns : List Str, DpAll K H (ns.map V.str) (ns.map PyData.str)
  | [] => .nil
  | n :: r => .cons (.str n) (dp_strs r)
theorem ok_line_str {z : Str} (h : lineB z = true) : PyData.strOk z = true := by
  unfold lineB at h
  rw [List.all_eq_true] at h
  unfold PyData.strOk
  rw [← Array.all_toList, List.all_eq_true]
  intro c hc
  have l : Lt c := of_decide_eq_true (h c hc)
  have := l.2.1
  exact decide_eq_true (by omega)
theorem canLay_strs : ∀ ns : List Str, (∀ z ∈ ns, lineB z = true) → PyData.canLayAll0 (ns.map PyData.str) = true
  | [], _ => rfl
  | n :: r, h => by
    show (PyData.canLay0 (.str n) && PyData.canLayAll0 (r.map PyData.str)) = true
    rw [canLay_strs r fun z hz => h z (List.mem_cons_of_mem _ hz), show PyData.canLay0 (.str n) = PyData.strOk n from rfl, ok_line_str (h n (List.mem_cons_self ..))]
    rfl
theorem depth_strs : ∀ ns : List Str, PyData.depthAll (ns.map PyData.str) = 0
  | [] => rfl
  | n :: r => by
    show max (PyData.depth (.str n)) (PyData.depthAll (r.map PyData.str)) = 0
    rw [depth_strs r]
    rfl
theorem canLay_bks : ∀ bs : List (Bk Str), (∀ b ∈ bs, Vb b) → PyData.canLayAll0 (bs.map datB) = true
  | [], _ => rfl
  | b :: r, h => by
    show (PyData.canLay0 (datB b) && PyData.canLayAll0 (r.map datB)) = true
    have e : PyData.canLay0 (datB b) = true := by
      show (PyData.canLayAll0 (b.1.map PyData.str) && _) = true
      rw [canLay_strs _ fun z hz => ((h b (List.mem_cons_self ..)).ok z hz).1]
      rfl
    rw [canLay_bks r fun c hc => h c (List.mem_cons_of_mem _ hc), e]
    rfl
theorem depth_bks : ∀ bs : List (Bk Str), PyData.depthAll (bs.map datB) ≤ 2
  | [] => Nat.zero_le _
  | b :: r => by
    show max (PyData.depthAll [.list (b.1.map PyData.str), .int (b.2 : Int)] + 1) (PyData.depthAll (r.map datB)) ≤ 2
    have h := depth_bks r
    have e : PyData.depthAll [.list (b.1.map PyData.str), .int (b.2 : Int)] ≤ 1 := by
      show max (PyData.depthAll (b.1.map PyData.str) + 1) (max 0 0) ≤ 1
      rw [depth_strs]
      decide
    omega
theorem shaped_bks (bs : List (Bk Str)) (h : ∀ b ∈ bs, Vb b) : SeqAt.shaped (.list (bs.map datB)) = true := by
  unfold SeqAt.shaped
  have h1 : PyData.canLay0 (.list (bs.map datB)) = true := by
    unfold PyData.canLay0
    exact canLay_bks bs h
  have h2 : PyData.depth (.list (bs.map datB)) ≤ 64 := by
    unfold PyData.depth
    have := depth_bks bs
    omega
  rw [h1, decide_eq_true h2]
  rfl
theorem dp_bks {K : PySem.W.Frag} {H : Hp} : ∀ {bs : List (Bk Str)} {us : List V}, Paired (fun b v => BkL H b v) bs us → DpAll K H us (bs.map datB)
  | _, _, .nil => .nil
  | _, _, .cons ⟨t, a, e, h1, h2⟩ r => by
    subst e
    exact .cons (.tup (SqT.of h1) (.cons (.lst (SqL.of h2) (dp_strs _)) (.cons (.int _) .nil))) (dp_bks r)
theorem LBs.dp {K : PySem.W.Frag} {H : Hp} {p : Addr} {bs : List (Bk Str)} (h : LBs H p bs) : Dp K H (.ref p) (.list (bs.map datB)) := by
  obtain ⟨us, h1, h2⟩ := h.ex
  exact .lst (SqL.of h1) (dp_bks h2)
theorem eqv_nil (bs : List (Bk Str)) : PyData.eqv (.list (bs.map datB)) (.list []) = decide (bs = []) := by
  cases bs with
  | nil => rfl
  | cons b r => rfl
theorem shaped_nil : SeqAt.shaped (.list []) = true := by decide +kernel
theorem dp_nil {K : PySem.W.Frag} {H : Hp} {p : Addr} (h : H p = some (.lst [])) : Dp K H (.ref p) (.list []) := .lst (SqL.of h) .nil
end LA
end
section
set_option Elab.async false
set_option linter.all false
set_option maxRecDepth 100000
set_option maxHeartbeats 4100000
namespace LA
open PySem L2 XS XT LM XV XO
/-- what stood in Y stands in X, but for A and B; nothing of Y is gone -/
structure Kp (A B : Addr) (Y X : Hp) : Prop where
  keep : ∀ c o, Y c = some o → c ≠ A → c ≠ B → X c = some o
  dom : ∀ c, X c = none → Y c = none
theorem Kp.rfl' {A B : Addr} {Y : Hp} : Kp A B Y Y := ⟨fun _ _ e _ _ => e, fun _ e => e⟩
theorem Kp.put {A B D : Addr} {Y X : Hp} {o : HO} (k : Kp A B Y X) (h : D = A ∨ D = B ∨ Y D = none) : Kp A B Y (upd X D o) := by
  refine ⟨fun c u e nA nB => ?_, fun c e => ?_⟩
  · have ne : c ≠ D := by
      rcases h with h | h | h
      · rw [h]; exact nA
      · rw [h]; exact nB
      · exact ne_of_none e h
    rw [upd_ne ne]
    exact k.keep c u e nA nB
  · by_cases ne : c = D
    · subst ne
      rw [upd_same] at e
      cases e
    · rw [upd_ne ne] at e
      exact k.dom c e
theorem Kp.new {A B D : Addr} {Y X : Hp} {o : HO} (k : Kp A B Y X) (h : X D = none) : Kp A B Y (upd X D o) := k.put (.inr (.inr (k.dom D h)))
/-- a list of blocks is written; other ones stay -/
theorem LBs.put {D p : Addr} {X X' : Hp} {vs : List V} {ls : List (Bk Str)} (kD : X D = some (.lst vs)) (hr : ∀ v ∈ vs, ∃ t, v = .ref t) (k : But D X X') (ne : p ≠ D) (vb : ∀ b ∈ ls, Vb b) (h : LBs X p ls) : LBs X' p ls := by
  obtain ⟨us, h1, h2⟩ := h.ex
  exact ⟨us, k _ _ h1 ne, pairL_put kD hr k (fun b hb => (vb b hb).l1) h2⟩
theorem rows_put {D a : Addr} {X X' : Hp} {vs : List V} {ys : List Str} (kD : X D = some (.lst vs)) (hr : ∀ v ∈ vs, ∃ t, v = .ref t) (k : But D X X') (l1 : 1 ≤ ys.length) (h : X a = some (.lst (ys.map V.str))) : X' a = some (.lst (ys.map V.str)) ∧ a ≠ D := by
  have ne : a ≠ D := fun z => by
    rw [z, kD] at h
    have e : vs = ys.map V.str := by injection h with h; injection h
    cases eb : ys with
    | nil => rw [eb] at l1; exact absurd l1 (by decide)
    | cons y r =>
      obtain ⟨t, et⟩ := hr (.str y) (by rw [e, eb]; exact List.mem_cons_self ..)
      cases et
  exact ⟨k _ _ h ne, ne⟩
/-- a new pair behind a list of blocks -/
theorem push_T {X : Hp} {Pc T r : Addr} {x : Int} {vs : List V} {qs : List (Bk Str)} {b : Bk Str} (hP : X Pc = some (.lst vs)) (pr : Paired (fun b v => BkL X b v) qs vs) (vq : ∀ c ∈ qs, Vb c) (hr : X r = some (.lst (b.1.map V.str))) (hb : 1 ≤ b.1.length) (ex : x = (b.2 : Int)) (nT : X T = none) :
    LBs (upd (upd X T (.tup [.ref r, .int x])) Pc (.lst (vs ++ [.ref T]))) Pc (qs ++ [b]) ∧ But Pc X (upd (upd X T (.tup [.ref r, .int x])) Pc (.lst (vs ++ [.ref T]))) := by
  subst ex
  have sT := same_upd (o := .tup [.ref r, .int (b.2 : Int)]) nT
  have bt : But Pc X (upd (upd X T (.tup [.ref r, .int (b.2 : Int)])) Pc (.lst (vs ++ [.ref T]))) := fun a o e n => by
    rw [upd_ne n]
    exact sT _ _ e
  have rf := refs_of pr
  have nTP : T ≠ Pc := (ne_of_none hP nT).symm
  obtain ⟨hr2, nr⟩ := rows_put hP rf bt hb hr
  exact ⟨⟨_, upd_same, pair_app (pairL_put hP rf bt (fun c hc => (vq c hc).l1) pr) (.cons ⟨T, r, rfl, by rw [upd_ne nTP]; exact upd_same, hr2⟩ .nil)⟩, bt⟩
theorem pair_mem {α β : Type} {R S : α → β → Prop} : ∀ {bs : List α} {vs : List β}, Paired R bs vs → (∀ a b, a ∈ bs → b ∈ vs → R a b → S a b) → Paired S bs vs
  | _, _, .nil, _ => .nil
  | _, _, .cons a r, h => .cons (h _ _ (List.mem_cons_self ..) (List.mem_cons_self ..) a) (pair_mem r fun x y hx hy => h x y (List.mem_cons_of_mem _ hx) (List.mem_cons_of_mem _ hy))
abbrev sRA : Stmt := top 41
abbrev nRA : List Str := ["_law_blocks", "_law_spots", "_law_found", "_law_left", "_law_done", "_law_spot", "_law_piece", "_law_rows", "_law_times", "_law_room", "_law_whole", "_law_rest"]
theorem scRA : FnScope nRA ["_law_blocks", "_law_spots"] (defScope sRA) := ⟨rfl, rfl, rfl, by decide +kernel, rfl, by decide +kernel, by decide +kernel⟩
section
variable {P : Program} {w : World} {K : PySem.W.Frag} {mg : Str → Option Value} {base : Heap} {C : Addr}
/-- rows_at of two numbers, one behind the other -/
def spRA : Sp := fun vs H Q _ => ∃ (p sp : Addr) (bs : List (Bk Str)) (n : Nat), vs = [.ref p, .ref sp] ∧ LBs H p bs ∧ H sp = some (.lst [.int (n : Int), .int ((n : Int) + 1)]) ∧ (∀ b ∈ bs, Vb b) ∧ n < (wr bs).length ∧ bs.length ≤ 50 ∧
  ∀ (R A B D : Addr) (as hs cs : List (Bk Str)) (H' : Hp), H' R = some (.lst [.ref A, .ref B, .ref D]) → LBs H' A as → LBs H' B hs → LBs H' D cs → (∀ b ∈ as, Vb b) → (∀ b ∈ hs, Vb b) → (∀ b ∈ cs, Vb b) →
    (wr as).length = n → (wr hs).length = 1 → wr as ++ (wr hs ++ wr cs) = wr bs → as.length + hs.length + cs.length ≤ bs.length + 6 → Same H H' → Q (.ref R) H'
/-- the lists of blocks so far -/
def Pcs (X : Hp) (ads : List Addr) (pcs : List (List (Bk Str))) : Prop := Paired (fun qs a => LBs X a qs) pcs ads
end
end LA
end
section
set_option Elab.async false
set_option linter.all false
set_option maxRecDepth 100000
set_option maxHeartbeats 8100000
namespace LA
open PySem L2 XS XT LM XV XO
/-- the state at a number of spots done -/
def RO (H : Hp) (p sp F : Addr) (bs : List (Bk Str)) (n i : Nat) (σ : St) (X : Hp) : Prop := ∃ (Lf : Addr) (ads : List Addr) (pcs : List (List (Bk Str))) (ls : List (Bk Str)) (dn : Int) (x5 x6 x7 x8 x9 x10 x11 : Option V),
  σ = [some (.ref p), some (.ref sp), some (.ref F), some (.ref Lf), some (.int dn), x5, x6, x7, x8, x9, x10, x11] ∧ X F = some (.lst (ads.map V.ref)) ∧ Pcs X ads pcs ∧ pcs.length = i ∧ LBs X Lf ls ∧ (∀ b ∈ ls, Vb b) ∧ (∀ q ∈ pcs, ∀ b ∈ q, Vb b) ∧
  (pcs.map wr).flatten ++ wr ls = wr bs ∧ dn = (((pcs.map wr).flatten.length : Nat) : Int) ∧ (pcs.map fun q => (wr q).length) = [n, 1].take i ∧ (pcs.map List.length).sum + ls.length ≤ bs.length + 3 * i ∧ F ≠ Lf ∧ F ∉ ads ∧ Lf ∉ ads ∧ H F = none ∧ H Lf = none ∧ (∀ a ∈ ads, H a = none) ∧ Same H X
/-- the state of one piece -/
def RI (Y : Hp) (p sp F L0 Pc : Addr) (W : List Str) (d0 s0 l0 : Nat) (σ : St) (X : Hp) : Prop := ∃ (Lf : Addr) (ls qs : List (Bk Str)) (dn : Int) (x7 x8 x9 x10 x11 : Option V),
  σ = [some (.ref p), some (.ref sp), some (.ref F), some (.ref Lf), some (.int dn), some (.int (s0 : Int)), some (.ref Pc), x7, x8, x9, x10, x11] ∧ LBs X Lf ls ∧ LBs X Pc qs ∧ (∀ b ∈ ls, Vb b) ∧ (∀ b ∈ qs, Vb b) ∧ wr qs ++ wr ls = W ∧ dn = ((d0 + (wr qs).length : Nat) : Int) ∧ d0 + (wr qs).length ≤ s0 ∧
  (d0 + (wr qs).length < s0 → qs.length + ls.length ≤ l0) ∧ qs.length + ls.length ≤ l0 + 3 ∧ Kp L0 Pc Y X ∧ (Lf = L0 ∨ Y Lf = none) ∧ Lf ≠ Pc
section
variable {P : Program} {w : World} {K : PySem.W.Frag} {mg : Str → Option Value} {base : Heap} {C : Addr}
theorem ok_RA {f : Addr} {fd : FuncData} (F : Fun K "_law_rows_at" "_law_rows_at" sRA f fd) (mL : mg "len" = none) (mI : mg "int" = none) (mLi : mg "list" = none) (mM : mg "min" = none) : FnOk P w K mg base CX0 1 f fd ["_law_blocks", "_law_spots"] spRA := by
  refine F.ok scRA (fun vs H Q E h => ?_) (fun cdv A outer s H vs Q E hr h => ?_)
  · obtain ⟨p, sp, bs, n, rfl, _⟩ := h
    rfl
  · obtain ⟨p, sp, bs, n, rfl, hB, hsp, vb, hn, few, q⟩ := h
    have hu6 := hr.units
    refine ⟨_, pss_cons (by exact (ps_par3 (i := 2) (j := 3) (l := 4) (by rfl) scRA.nd rfl rfl rfl (by decide) (by decide) (by decide) rfl rfl rfl (pa_cons (pe_lst pa_nil) (pa_cons (pe_callTy call_list_of (by rfl) mLi (by decide +kernel) (pa_cons (pv 0) pa_nil)) (pa_cons pe_int pa_nil))) (by rfl)))
      (pss_cons (by exact (ps_for PassesOwn.never rfl (pi_list (pv 1)) (by exact (pg_name (i := 5) scRA.nd rfl (Or.inl rfl))) (pss_cons (by exact (ps_set (i := 6) scRA.nd rfl (.inl rfl) (pe_lst pa_nil)))
      (pss_cons (by exact (ps_while PassesOwn.never (PW.pt (pw_and (pt_cmpR op_lt (pv 4) (pv 5) (nomark _)) (pw_and1 (pt_cmpR (op_neD hu6) (pv 3) (pe_lst pa_nil) (nomark _))))) (pss_cons (by exact (ps_asg (pe_bm PySem.F.plainAttrs_list PySem.F.slot_list_pop PySem.F.type_list_pop mt_popAt (pv 3) (pa_cons pe_int pa_nil)) (pg_tup rfl (pgs_cons (by exact (pg_name (i := 7) scRA.nd rfl (Or.inl rfl))) (pgs_cons (by exact (pg_name (i := 8) scRA.nd rfl (Or.inl rfl))) pgs_nil)))))
      (pss_cons (by exact (ps_set (i := 9) scRA.nd rfl (.inl rfl) (pe_op op_sub (pv 5) (pv 4))))
      (pss_cons (by exact (ps_set (i := 10) scRA.nd rfl (.inl rfl) (pe_callB (call_min2 rfl) (by rfl) mM (by decide +kernel) (pa_cons (pv 8) (pa_cons (pe_op op_fdiv (pv 9) (pe_callB call_len_seq (by rfl) mL PySem.boot_len (pa_cons (pv 7) pa_nil))) pa_nil)))))
      (pss_cons (by exact (ps_if (pt_cmpR op_gt (pv 10) pe_int (nomark _)) (pss_one (by exact (ps_expr (pe_bm PySem.F.plainAttrs_list PySem.F.slot_list_append PySem.F.type_list_append mt_append (pv 6) (pa_cons (pe_tup (pa_cons (pv 7) (pa_cons (pv 10) pa_nil))) pa_nil))))) pss_nil))
      (pss_cons (by exact (ps_if (PW.pt (pw_and (pt_cmpR op_lt (pv 10) (pv 8) (nomark _)) (pw_and1 (pt_cmpR op_gt (pe_op op_sub (pv 9) (pe_op op_mulW (pv 10) (pe_callB call_len_seq (by rfl) mL PySem.boot_len (pa_cons (pv 7) pa_nil)))) pe_int (nomark _))))) (pss_cons (by exact (ps_set (i := 11) scRA.nd rfl (.inl rfl) (pe_op op_sub (pv 9) (pe_op op_mulW (pv 10) (pe_callB call_len_seq (by rfl) mL PySem.boot_len (pa_cons (pv 7) pa_nil))))))
      (pss_cons (by exact (ps_expr (pe_bm PySem.F.plainAttrs_list PySem.F.slot_list_append PySem.F.type_list_append mt_append (pv 6) (pa_cons (pe_tup (pa_cons (pe_slice sl_list (pv 7) po_none (po_some (pv 11))) (pa_cons pe_int pa_nil))) pa_nil))))
      (pss_one (by exact (ps_set (i := 3) scRA.nd rfl (.inl rfl) (pe_op op_cat (pe_op op_cat (pe_lst (pa_cons (pe_tup (pa_cons (pe_slice sl_list (pv 7) (po_some (pv 11)) po_none) (pa_cons pe_int pa_nil))) pa_nil)) (pe_op op_rep (pe_lst (pa_cons (pe_tup (pa_cons (pv 7) (pa_cons (pe_op op_sub (pe_op op_sub (pv 8) (pv 10)) pe_int) pa_nil))) pa_nil)) (pe_callTy call_int1 (by rfl) mI (by decide +kernel) (pa_cons (pe_cmpR op_gt (pe_op op_sub (pv 8) (pv 10)) pe_int (nomark _)) pa_nil)))) (pv 3))))))) (pss_one (by exact (ps_if (pt_cmpR op_lt (pv 10) (pv 8) (nomark _)) (pss_one (by exact (ps_set (i := 3) scRA.nd rfl (.inl rfl) (pe_op op_cat (pe_lst (pa_cons (pe_tup (pa_cons (pv 7) (pa_cons (pe_op op_sub (pv 8) (pv 10)) pa_nil))) pa_nil)) (pv 3))))) pss_nil)))))
      (pss_one (by exact (ps_set (i := 4) scRA.nd rfl (.inl rfl) (pe_op op_add (pv 4) (pe_callB (call_min2 rfl) (by rfl) mM (by decide +kernel) (pa_cons (pe_op op_mulW (pe_callB call_len_seq (by rfl) mL PySem.boot_len (pa_cons (pv 7) pa_nil)) (pv 8)) (pa_cons (pv 9) pa_nil))))))))))))))
      (pss_one (by exact (ps_expr (pe_bm PySem.F.plainAttrs_list PySem.F.slot_list_append PySem.F.type_list_append mt_append (pv 2) (pa_cons (pv 6) pa_nil)))))))))
      (pss_one (by exact (ps_ret (pe_op op_cat (pv 2) (pe_lst (pa_cons (pv 3) pa_nil))))))), ?_⟩
    obtain ⟨us0, kp0, pr0⟩ := hB.ex
    refine ⟨(by show 0 ≤ sizeLine; decide), fun F nF => ⟨_, rfl, p, us0, rfl, .inl (SqL.of ((same_upd nF) _ _ kp0)), fun L0 nL0 => ⟨_, _, _, rfl, ?_⟩⟩⟩
    have sF := same_upd (o := .lst []) nF
    have sL0 := same_upd (o := .lst us0) nL0
    have sFL := sF.trans sL0
    have nFL : F ≠ L0 := ne_of_none upd_same nL0
    refine ⟨_, rfl, sp, rfl, ⟨_, SqL.of (sFL _ _ hsp)⟩, for_it (walk_list (K := K) (a := sp) (xs := [.int (n : Int), .int ((n : Int) + 1)])) (RO H p sp F bs n) ⟨L0, [], [], bs, 0, none, none, none, none, none, none, none, rfl, sL0 _ _ upd_same, .nil, rfl, ⟨us0, upd_same, bkL_same sFL pr0⟩, vb, fun _ h => absurd h List.not_mem_nil, rfl, rfl, rfl, by simp, nFL, List.not_mem_nil, List.not_mem_nil, nF, sF.free nL0, fun _ h => absurd h List.not_mem_nil, sFL⟩ (fun i σ X _ pw => ?_) (fun i x σ X X' hi pw yl => ?_) (fun σ X pw => ?_)⟩
    · obtain ⟨Lf, ads, pcs, ls, dn, x5, x6, x7, x8, x9, x10, x11, rfl, kF, kA, pl, hL, vl, vp, eW, ed, el, cnt, n1, n2, n3, f1, f2, f3, sX⟩ := pw
      exact SqL.of (sX _ _ hsp)
    · obtain ⟨Lf0, ads, pcs, ls0, dn0, x5, x6, x7, x8, x9, x10, x11, rfl, kF, kA, pl, hL0, vl0, vp, eW, ed, el, cnt, n1, n2, n3, f1, f2, f3, sX⟩ := pw
      obtain ⟨rfl, hx⟩ := yl
      obtain ⟨s0, rfl, es0⟩ : ∃ s0 : Nat, x = .int (s0 : Int) ∧ s0 = n + i := by
        have hi2 : i < 2 := hi
        rcases (show i = 0 ∨ i = 1 by omega) with rfl | rfl
        · exact ⟨n, (Option.some.inj hx).symm, rfl⟩
        · exact ⟨n + 1, (Option.some.inj hx).symm.trans (congrArg V.int (by omega)), rfl⟩
      refine ⟨(by show 0 ≤ sizeLine; decide), fun Pc nPc => ?_⟩
      have sPc := same_upd (o := .lst []) nPc
      obtain ⟨us, kL0, prL0⟩ := hL0.ex
      have nLP : Lf0 ≠ Pc := ne_of_none kL0 nPc
      have hd0 : (pcs.map wr).flatten.length ≤ s0 := by
        have e0 : (pcs.map wr).flatten.length = (pcs.map fun q => (wr q).length).sum := by rw [List.length_flatten, List.map_map]; rfl
        rw [e0, el, es0]
        have hi2 : i < 2 := hi
        rcases (show i = 0 ∨ i = 1 by omega) with rfl | rfl
        · exact Nat.zero_le _
        · show n + 0 ≤ n + 1
          omega
      refine while_by (RI (upd X' Pc (.lst [])) p sp F Lf0 Pc (wr ls0) (pcs.map wr).flatten.length s0 ls0.length)
        (fun σ _ => match (σ[4]? : Option (Option V)), (σ[5]? : Option (Option V)) with
          | some (some (V.int a)), some (some (V.int b)) => (b - a).toNat
          | _, _ => 0) ⟨Lf0, ls0, [], dn0, _, _, _, _, _, rfl, hL0.same sPc, ⟨[], upd_same, .nil⟩, vl0, fun _ h => absurd h List.not_mem_nil, rfl, ed, hd0, fun _ => by simp, by simp, Kp.rfl', .inl rfl, nLP⟩ (fun σ X pw => ?_) ?_
      · obtain ⟨Lf, ls, qs, dn, x7, x8, x9, x10, x11, rfl, hL, hP, vl, vq, eW2, edn, hle, c1, c2, kp, alt, nLPc⟩ := pw
        have sLen : (pcs.map wr).flatten.length + (wr ls0).length = (wr bs).length := by rw [← eW, List.length_append]
        have hs0 : s0 ≤ (wr bs).length := by
          have hi2 : i < 2 := hi
          omega
        have lenW : (wr qs).length + (wr ls).length = (wr ls0).length := by rw [← eW2, List.length_append]
        have fin : ∀ Z, Same X Z → (pcs.map wr).flatten.length + (wr qs).length = s0 → RO H p sp F bs n (i + 1) [some (.ref p), some (.ref sp), some (.ref F), some (.ref Lf), some (.int dn), some (.int (s0 : Int)), some (.ref Pc), x7, x8, x9, x10, x11] (upd Z F (.lst (ads.map V.ref ++ [.ref Pc]))) ∧ Z F = some (.lst (ads.map V.ref)) := fun Z sZ full => by
          have hi2 : i < 2 := hi
          have kFY : upd X' Pc (.lst []) F = some (.lst (ads.map V.ref)) := sPc _ _ kF
          have nFPc : F ≠ Pc := ne_of_none kF nPc
          have kFX := kp.keep _ _ kFY n1 nFPc
          have kFZ := sZ _ _ kFX
          have bX : But Lf0 X' X := fun c o e ne => kp.keep c o (sPc _ _ e) ne (ne_of_none e nPc)
          have bF : But F Z (upd Z F (.lst (ads.map V.ref ++ [.ref Pc]))) := but_upd
          have rfA : ∀ v ∈ ads.map V.ref, ∃ t, v = .ref t := fun v hv => by
            obtain ⟨a, _, e⟩ := List.mem_map.mp hv
            exact ⟨a, e.symm⟩
          have some_of : ∀ a, (∃ o, X' a = some o) → a ≠ Lf0 → Lf ≠ a := fun a ⟨o, ho⟩ na e => by
            rcases alt with h | h
            · exact na (e.symm.trans h)
            · rw [e, sPc _ _ ho] at h
              cases h
          have adsS : ∀ a ∈ ads, ∃ o, X' a = some o := fun a ha => by
            obtain ⟨j, hj⟩ := List.getElem?_of_mem ha
            obtain ⟨q0, _, r0⟩ := pair_at kA hj
            obtain ⟨u0, k0, _⟩ := r0.ex
            exact ⟨_, k0⟩
          have nLF : Lf ≠ F := some_of F ⟨_, kF⟩ n1
          refine ⟨⟨Lf, ads ++ [Pc], pcs ++ [qs], ls, dn, _, _, _, _, _, _, _, rfl, by rw [List.map_append]; exact upd_same, pair_app ?_ (.cons ((hP.same sZ).put kFZ rfA bF (fun z => nFPc z.symm) vq) .nil), by rw [List.length_append, pl]; rfl, (hL.same sZ).put kFZ rfA bF nLF vl, vl, ?_, ?_, ?_, ?_, ?_, fun z => nLF z.symm, ?_, ?_, f1, ?_, ?_, ?_⟩, kFZ⟩
          · refine pair_mem kA fun q0 a hq ha r0 => ?_
            have vq0 := vp q0 hq
            have na : a ≠ Lf0 := fun z => n3 (z ▸ ha)
            exact ((r0.put kL0 (refs_of prL0) bX na vq0).same sZ).put kFZ rfA bF (fun z => n2 (z ▸ ha)) vq0
          · intro q0 hq
            rcases List.mem_append.mp hq with hq | hq
            · exact vp q0 hq
            · rw [List.mem_singleton] at hq
              exact hq ▸ vq
          · rw [List.map_append, List.flatten_append, List.append_assoc]
            show _ ++ ((wr qs ++ []) ++ wr ls) = _
            rw [List.append_nil, eW2, eW]
          · rw [edn, List.map_append, List.flatten_append, List.length_append]
            show _ = ((_ + (wr qs ++ []).length : Nat) : Int)
            rw [List.append_nil]
          · have e0 : (pcs.map wr).flatten.length = (pcs.map fun q => (wr q).length).sum := by rw [List.length_flatten, List.map_map]; rfl
            rw [List.map_append, el]
            rw [e0, el] at full
            rcases (show i = 0 ∨ i = 1 by omega) with rfl | rfl
            · have z : 0 + (wr qs).length = s0 := full
              show [(wr qs).length] = [n]
              rw [show (wr qs).length = n by omega]
            · have z : n + 0 + (wr qs).length = s0 := full
              show [n, (wr qs).length] = [n, 1]
              rw [show (wr qs).length = 1 by omega]
          · rw [List.map_append, List.sum_append]
            show _ + (qs.length + 0) + ls.length ≤ _
            omega
          · intro z
            rcases List.mem_append.mp z with z | z
            · exact n2 z
            · exact nFPc (List.mem_singleton.mp z)
          · intro z
            rcases List.mem_append.mp z with z | z
            · exact some_of Lf (adsS Lf z) (fun e => n3 (e ▸ z)) rfl
            · exact nLPc (List.mem_singleton.mp z)
          · rcases alt with h | h
            · exact h ▸ f2
            · exact (sX.trans sPc).free h
          · intro a ha
            rcases List.mem_append.mp ha with ha | ha
            · exact f3 a ha
            · rw [List.mem_singleton] at ha
              exact ha ▸ sX.free nPc
          · intro c o e
            rw [upd_ne (ne_of_none e f1)]
            exact sZ _ _ (bX _ _ (sX _ _ e) (ne_of_none e f2))
        have szF : (ads.map V.ref).length < sizeLine := by
          have hi2 : i < 2 := hi
          exact Nat.lt_of_lt_of_le (by rw [List.length_map, ← pair_len kA, pl]; omega : _ < 2) (by decide)
        refine ⟨_, rfl, _, rfl, _, _, rfl, rfl, _, rfl, ?_⟩
        by_cases t1 : dn < (s0 : Int)
        · rw [decide_eq_true t1]
          refine iteT ⟨_, rfl, (by show 0 ≤ sizeLine; decide), fun E nE => ?_⟩
          have sE := same_upd (o := .lst []) nE
          refine ⟨_, _, (hL.same sE).dp, dp_nil upd_same, shaped_bks ls vl, shaped_nil, _, rfl, ?_⟩
          rw [eqv_nil]
          cases ls with
          | nil =>
            rw [decide_eq_true rfl]
            refine iteF ?_
            obtain ⟨g, kF2⟩ := fin _ sE (by rw [wr_nil, List.length_nil] at lenW; omega)
            refine ⟨_, rfl, .inl ⟨rfl, _, SqL.of kF2⟩, _, rfl, F, _, _, rfl, rfl, kF2, szF, g⟩
          | cons b ls =>
            rw [decide_eq_false (fun z => nomatch z)]
            refine iteT ?_
            have hL1 := hL.same sE
            have hP1 := hP.same sE
            obtain ⟨us1, kL, prL⟩ := hL1.ex
            have nE2 : Kp Lf0 Pc (upd X' Pc (.lst [])) (upd X E (.lst [])) := kp.new nE
            generalize hZ1 : upd X E (.lst []) = Z1 at *
            cases prL with
            | @cons _ u _ us2 hu prL =>
              have rfL := refs_of (.cons hu prL : Paired (fun b v => BkL Z1 b v) (b :: ls) (u :: us2))
              obtain ⟨t0, r0, rfl, kt0, kr0⟩ := hu
              have vb1 := vl b (List.mem_cons_self ..)
              have vls : ∀ c ∈ ls, Vb c := fun c hc => vl c (List.mem_cons_of_mem _ hc)
              have bL : But Lf Z1 (upd Z1 Lf (.lst us2)) := but_upd
              obtain ⟨kr1, nr⟩ := rows_put kL rfL bL vb1.l1 kr0
              have nt : t0 ≠ Lf := fun z => by rw [z, kL] at kt0; cases kt0
              have kt1 := bL _ _ kt0 nt
              have hL2 : LBs (upd Z1 Lf (.lst us2)) Lf ls := ⟨us2, upd_same, pairL_put kL rfL bL (fun c hc => (vls c hc).l1) prL⟩
              have hP2 : LBs (upd Z1 Lf (.lst us2)) Pc qs := hP1.put kL rfL bL (fun z => nLPc z.symm) vq
              have kp2 : Kp Lf0 Pc (upd X' Pc (.lst [])) (upd Z1 Lf (.lst us2)) := nE2.put (alt.elim .inl (fun h => .inr (.inr h)))
              refine ⟨_, rfl, .inl ⟨rfl, _, SqL.of kL⟩, Lf, _, 0, 0, _, rfl, rfl, kL, by decide, by decide, (by show (if _ then _ else _) = _; simp), rfl, ?_⟩
              have ee : (V.ref t0 :: us2).eraseIdx 0 = us2 := rfl
              rw [ee]
              generalize upd Z1 Lf (.lst us2) = Z2 at *
              refine ⟨t0, _, rfl, SqT.of kt1, rfl, _, _, rfl, _, _, rfl, rfl, ?_⟩
              refine ⟨_, rfl, _, rfl, _, _, rfl, rfl, ?_⟩
              have l1 := vb1.l1
              have l4 := vb1.l4
              have m4 := vb1.l4
              have b1 := vb1.t1
              have b30 := vb1.t30
              have elen : ((b.1.map V.str).length : Int) = (b.1.length : Int) := by rw [List.length_map]
              refine ⟨_, rfl, _, rfl, _, rfl, r0, _, rfl, .inl (SqL.of kr1), _, _, rfl, rfl, ⟨by rw [elen]; omega, by rw [elen]; omega⟩, _, _, rfl, ?_⟩
              obtain ⟨rm, erm⟩ : ∃ rm, rm = s0 - ((pcs.map wr).flatten.length + (wr qs).length) := ⟨_, rfl⟩
              have erI : (s0 : Int) - dn = (rm : Int) := by omega
              obtain ⟨wh, ewh⟩ : ∃ wh, wh = min b.2 (rm / b.1.length) := ⟨_, rfl⟩
              have edv : (rm : Int) / (b.1.length : Int) = ((rm / b.1.length : Nat) : Int) := rfl
              simp only [erI, elen, edv]
              have eI : (if ((rm / b.1.length : Nat) : Int) < (b.2 : Int) then ((rm / b.1.length : Nat) : Int) else (b.2 : Int)) = (wh : Int) := by
                split <;> omega
              rw [eI]
              have wm : CMulW (wh : Int) ((b.1.map V.str).length : Int) := by
                rw [elen]
                exact wide_mul (times_small (by omega)) (rows_small l4) (by decide) (by decide) (by decide)
              have wm2 : CMulW ((b.1.map V.str).length : Int) (b.2 : Int) := by
                rw [elen]
                exact wide_mul (rows_small l4) (times_small b30) (by decide) (by decide) (by decide)
              have emul : (b.1.length : Int) * (b.2 : Int) = ((b.1.length * b.2 : Nat) : Int) := by rw [Int.natCast_mul]
              have emul2 : (wh : Int) * (b.1.length : Int) = ((wh * b.1.length : Nat) : Int) := by rw [Int.natCast_mul]
              obtain ⟨vs2, kP2, prP2⟩ := hP2.ex
              have rfP := refs_of prP2
              have vl2 : vs2.length ≤ 900 := by
                have hi2 : i < 2 := hi
                have := pair_len prP2
                have : ls.length + 1 = (b :: ls).length := rfl
                omega
              refine ⟨_, rfl, _, _, rfl, rfl, _, rfl, ?_⟩
              by_cases w0 : 0 < wh
              case' pos =>
                rw [decide_eq_true (show (0 : Int) < (wh : Int) by omega)]
                refine iteT ⟨_, rfl, .inl ⟨rfl, _, SqL.of kP2⟩, _, rfl, _, rfl, (by show 2 ≤ sizeLine; decide), fun T nT => ?_⟩
                obtain ⟨hP3, b3⟩ := push_T (b := (b.1, wh)) kP2 prP2 vq kr1 l1 rfl nT
                have hL3 := hL2.put kP2 rfP b3 nLPc vls
                have kr3 := (rows_put kP2 rfP b3 l1 kr1).1
                have kp3 : Kp Lf0 Pc (upd X' Pc (.lst [])) (upd (upd Z2 T (.tup [.ref r0, .int (wh : Int)])) Pc (.lst (vs2 ++ [.ref T]))) := (kp2.new nT).put (.inr (.inl rfl))
                refine ⟨Pc, _, _, rfl, rfl, same_upd nT _ _ kP2, Nat.lt_of_le_of_lt vl2 (by decide), ?_⟩
                have vq3 : ∀ c ∈ qs ++ [(b.1, wh)], Vb c := fun c hc => by
                  rcases List.mem_append.mp hc with hc | hc
                  · exact vq c hc
                  · rw [List.mem_singleton] at hc
                    exact hc ▸ vb1.part l1 l4 (by omega) (by omega) (fun _ h => h)
                have wr3 : wr (qs ++ [(b.1, wh)]) = wr qs ++ one (b.1, wh) := by rw [wr_app, wr_cons, wr_nil, List.append_nil]
                have ln3 : (qs ++ [(b.1, wh)]).length ≤ qs.length + 1 := by rw [List.length_append]; exact Nat.le_refl _
                generalize upd (upd Z2 T (.tup [.ref r0, .int (wh : Int)])) Pc (.lst (vs2 ++ [.ref T])) = X3 at hP3 hL3 kr3 kp3 ⊢
                generalize qs ++ [(b.1, wh)] = qs3 at hP3 vq3 wr3 ln3
                clear b3
              case' neg =>
                rw [decide_eq_false (show ¬ (0 : Int) < (wh : Int) by omega)]
                refine iteF ?_
                have hP3 := hP2
                have hL3 := hL2
                have kr3 := kr1
                have kp3 := kp2
                have vq3 := vq
                have wr3 : wr qs = wr qs ++ one (b.1, wh) := by
                  rw [show wh = 0 by omega]
                  show wr qs = wr qs ++ []
                  rw [List.append_nil]
                have ln3 : qs.length ≤ qs.length + 1 := by omega
                obtain ⟨qs3, eq3⟩ : ∃ qs3, qs3 = qs := ⟨_, rfl⟩
                rw [← eq3] at hP3 vq3
                have wr3 : wr qs3 = wr qs ++ one (b.1, wh) := by rw [eq3]; exact wr3
                have ln3 : qs3.length ≤ qs.length + 1 := by rw [eq3]; exact ln3
                clear eq3
                generalize Z2 = X3 at hP3 hL3 kr3 kp3 ⊢
              all_goals
                obtain ⟨vs3, kP3, prP3⟩ := hP3.ex
                obtain ⟨us3, kL3, prL3⟩ := hL3.ex
                have rf3 := refs_of prP3
                have vl3 : vs3.length ≤ 950 := by
                  have := pair_len prP3
                  have := pair_len prP2
                  omega
                have ul3 : us3.length ≤ 950 := by
                  have hi2 : i < 2 := hi
                  have := pair_len prL3
                  have : ls.length + 1 = (b :: ls).length := rfl
                  omega
                refine ⟨_, rfl, _, rfl, _, _, rfl, rfl, _, rfl, ?_⟩
                by_cases fl : wh < b.2
                · rw [decide_eq_true (show (wh : Int) < (b.2 : Int) by omega)]
                  refine iteT ⟨_, rfl, _, rfl, _, rfl, r0, _, rfl, .inl (SqL.of kr3), _, _, rfl, rfl, wm, _, _, rfl, rfl, _, _, rfl, rfl, _, rfl, ?_⟩
                  rw [elen, emul2]
                  have ewh2 : wh = rm / b.1.length := by omega
                  have hq := Nat.div_add_mod rm b.1.length
                  have hlt := Nat.mod_lt rm l1
                  have em : wh * b.1.length = b.1.length * (rm / b.1.length) := by rw [ewh2, Nat.mul_comm]
                  have hm2 : rm < b.1.length * b.2 := by
                    have z : rm / b.1.length < b.2 := by omega
                    have z2 := (Nat.div_lt_iff_lt_mul l1).mp z
                    rw [Nat.mul_comm] at z2
                    exact z2
                  have c1' := c1 (by omega)
                  have lc : (b :: ls).length = ls.length + 1 := rfl
                  have emn : ∀ e : Int, e = (rm : Int) → (if e < ((b.1.length * b.2 : Nat) : Int) then e else ((b.1.length * b.2 : Nat) : Int)) = (rm : Int) := fun e he => by
                    rw [he, if_pos (by omega)]
                  have eone : (wr qs).length + (wh * b.1.length) = (wr qs3).length := by rw [wr3, List.length_append, len_one, Nat.mul_comm]
                  by_cases rs0 : wh * b.1.length < rm
                  · rw [decide_eq_true (show (0 : Int) < (rm : Int) - ((wh * b.1.length : Nat) : Int) by omega)]
                    refine iteT ⟨_, rfl, _, rfl, _, rfl, r0, _, rfl, .inl (SqL.of kr3), _, _, rfl, rfl, wm, _, _, rfl, rfl, ?_⟩
                    obtain ⟨rs, ers⟩ : ∃ rs, rs = rm - wh * b.1.length := ⟨_, rfl⟩
                    have eR : (rm : Int) - ((wh * b.1.length : Nat) : Int) = (rs : Int) := by omega
                    simp only [elen, emul2, eR]
                    have rs1 : 1 ≤ rs := by omega
                    have rs2 : rs < b.1.length := by omega
                    have lt : (b.1.take rs).length = rs := by rw [List.length_take]; omega
                    have ld : (b.1.drop rs).length = b.1.length - rs := List.length_drop
                    refine ⟨_, rfl, .inl ⟨rfl, _, SqL.of kP3⟩, _, rfl, _, rfl, _, rfl, r0, _, rfl, SqL.of kr3, fun g1 m1 => ⟨(by show 2 ≤ sizeLine; decide), fun T2 nT2 => ?_⟩⟩
                    rw [cut_lo] at nT2 ⊢
                    have sg1 := same_upd (o := .lst ((b.1.take rs).map V.str)) m1
                    have kP4 := sg1 _ _ kP3
                    obtain ⟨hP5, b5⟩ := push_T (b := (b.1.take rs, 1)) kP4 (bkL_same sg1 prP3) vq3 upd_same (by show 1 ≤ (b.1.take rs).length; omega) (rfl : (1 : Int) = ((1 : Nat) : Int)) nT2
                    have hL5 := ((⟨us3, kL3, prL3⟩ : LBs X3 Lf ls).same sg1).put kP4 rf3 b5 nLPc vls
                    have kr5 := (rows_put kP4 rf3 b5 l1 (sg1 _ _ kr3)).1
                    have kp5 : Kp Lf0 Pc (upd X' Pc (.lst [])) (upd (upd (upd X3 g1 (.lst ((b.1.take rs).map V.str))) T2 (.tup [.ref g1, .int 1])) Pc (.lst (vs3 ++ [.ref T2]))) := ((kp3.new m1).new nT2).put (.inr (.inl rfl))
                    refine ⟨Pc, _, _, rfl, rfl, same_upd nT2 _ _ kP4, Nat.lt_of_le_of_lt vl3 (by decide), ?_⟩
                    generalize upd (upd (upd X3 g1 (.lst ((b.1.take rs).map V.str))) T2 (.tup [.ref g1, .int 1])) Pc (.lst (vs3 ++ [.ref T2])) = X5 at hP5 hL5 kr5 kp5 ⊢
                    obtain ⟨us5, kL5, prL5⟩ := hL5.ex
                    have ul5 : us5.length ≤ 950 := by
                      have := pair_len prL5
                      have := pair_len prL3
                      omega
                    refine ⟨_, rfl, _, rfl, _, rfl, r0, _, rfl, SqL.of kr5, fun g2 m2 => ⟨(by show 2 ≤ sizeLine; decide), fun T3 n3' => ⟨(by show 1 ≤ sizeLine; decide), fun l1' nl1 => ?_⟩⟩⟩
                    rw [cut_hi b.1 rs (by omega)] at n3' nl1 ⊢
                    have s1 := same_upd (o := .lst ((b.1.drop rs).map V.str)) m2
                    have s2 := same_upd (o := .tup [.ref g2, .int 1]) n3'
                    have s3 := same_upd (o := .lst [.ref T3]) nl1
                    have kp6 := ((kp5.new (o := .lst ((b.1.drop rs).map V.str)) m2).new (o := .tup [.ref g2, .int 1]) n3').new (o := .lst [.ref T3]) nl1
                    refine ⟨_, rfl, _, rfl, _, rfl, _, _, rfl, rfl, _, _, rfl, rfl, (by show 2 ≤ sizeLine; decide), fun T4 n4 => ⟨(by show 1 ≤ sizeLine; decide), fun l2 nl2 => ?_⟩⟩
                    have s4 := same_upd (o := .tup [.ref r0, .int ((b.2 : Int) - (wh : Int) - 1)]) n4
                    have s5 := same_upd (o := .lst [.ref T4]) nl2
                    have kp7 := (kp6.new (o := .tup [.ref r0, .int ((b.2 : Int) - (wh : Int) - 1)]) n4).new (o := .lst [.ref T4]) nl2
                    obtain ⟨k, ek, ek2, ek3⟩ : ∃ k : Nat, (if decide ((1 : Int) < (b.2 : Int) - (wh : Int)) = true then (1 : Int) else 0) = (k : Int) ∧ (k = 0 → b.2 = wh + 1) ∧ (k = 1 ∧ wh + 1 < b.2 ∨ k = 0) := by
                      by_cases z : (1 : Int) < (b.2 : Int) - (wh : Int)
                      · exact ⟨1, by rw [decide_eq_true z]; rfl, fun e => by omega, .inl ⟨rfl, by omega⟩⟩
                      · exact ⟨0, by rw [decide_eq_false z]; rfl, fun e => by omega, .inr rfl⟩
                    refine ⟨_, rfl, _, rfl, _, _, rfl, rfl, _, _, rfl, rfl, .inr ⟨_, rfl, ?_⟩⟩
                    rw [ek]
                    have k1 : k ≤ 1 := by omega
                    have er : (List.replicate ((k : Int).toNat) [V.ref T4]).flatten = List.replicate k (V.ref T4) := by
                      rcases (show k = 0 ∨ k = 1 by omega) with e | e <;> rw [e] <;> rfl
                    refine ⟨l2, _, _, rfl, rfl, upd_same, by omega, by omega, (by show 1 * (k : Int).toNat ≤ sizeLine; exact Nat.le_trans (by omega) (by decide : 1 ≤ sizeLine)), fun l3 nl3 => ?_⟩
                    rw [er]
                    have s6 := same_upd (o := .lst (List.replicate k (V.ref T4))) nl3
                    have kp8 := kp7.new (o := .lst (List.replicate k (V.ref T4))) nl3
                    refine ⟨l1', l3, _, _, rfl, rfl, s6 _ _ (s5 _ _ (s4 _ _ upd_same)), upd_same, (by rw [List.length_replicate]; show 1 + k ≤ sizeLine; exact Nat.le_trans (by omega) (by decide : 2 ≤ sizeLine)), fun l4 nl4 => ?_⟩
                    have s7 := same_upd (o := .lst ([.ref T3] ++ List.replicate k (V.ref T4))) nl4
                    have kp9 := kp8.new (o := .lst ([.ref T3] ++ List.replicate k (V.ref T4))) nl4
                    have s47 := (s4.trans s5).trans (s6.trans s7)
                    have s17 := ((s1.trans s2).trans s3).trans s47
                    refine ⟨_, rfl, l4, Lf, _, _, rfl, rfl, upd_same, s17 _ _ kL5, (by rw [List.length_append, List.length_replicate]; show 1 + k + us5.length ≤ sizeLine; exact Nat.le_trans (by omega) (by decide : 1000 ≤ sizeLine)), fun l5 nl5 => ?_⟩
                    have s8 := same_upd (o := .lst ([.ref T3] ++ List.replicate k (V.ref T4) ++ us5)) nl5
                    have kp10 := kp9.new (o := .lst ([.ref T3] ++ List.replicate k (V.ref T4) ++ us5)) nl5
                    have s18 := s17.trans s8
                    have s28 := (s2.trans s3).trans (s47.trans s8)
                    have kr8 := s18 _ _ kr5
                    refine ⟨_, rfl, _, rfl, r0, _, rfl, .inl (SqL.of kr8), _, rfl, _, _, rfl, rfl, wm2, _, rfl, _, _, rfl, _, _, rfl, rfl, ?_⟩
                    rw [elen, emul, emn _ rfl]
                    have e5 : (wr (qs3 ++ [(b.1.take rs, 1)])).length = (wr qs).length + rm := by
                      rw [wr_app, wr_cons, wr_nil, List.append_nil, List.length_append, len_one, ← eone, lt]
                      omega
                    have ev : dn + (rm : Int) = (((pcs.map wr).flatten.length + (wr (qs3 ++ [(b.1.take rs, 1)])).length : Nat) : Int) := by
                      rw [e5]
                      omega
                    have hRep : Paired (fun c0 u0 => BkL (upd (upd (upd (upd (upd (upd (upd (upd X5 g2 (.lst ((b.1.drop rs).map V.str))) T3 (.tup [.ref g2, .int 1])) l1' (.lst [.ref T3])) T4 (.tup [.ref r0, .int ((b.2 : Int) - (wh : Int) - 1)])) l2 (.lst [.ref T4])) l3 (.lst (List.replicate k (V.ref T4)))) l4 (.lst ([.ref T3] ++ List.replicate k (V.ref T4)))) l5 (.lst ([.ref T3] ++ List.replicate k (V.ref T4) ++ us5))) c0 u0) (List.replicate k (b.1, b.2 - wh - 1)) (List.replicate k (V.ref T4)) := by
                      have e9 : (b.2 : Int) - (wh : Int) - 1 = ((b.2 - wh - 1 : Nat) : Int) ∨ b.2 = wh + 1 := by omega
                      rcases ek3 with ⟨e, lt⟩ | e
                      · subst e
                        rcases e9 with e9 | e9
                        · refine .cons ⟨T4, r0, rfl, ?_, kr8⟩ .nil
                          show _ = some (HO.tup [.ref r0, .int ((b.2 - wh - 1 : Nat) : Int)])
                          rw [← e9]
                          exact (s5.trans (s6.trans (s7.trans s8))) _ _ upd_same
                        · omega
                      · subst e
                        exact .nil
                    have kl5 := upd_same (H := upd (upd (upd (upd (upd (upd (upd X5 g2 (.lst ((b.1.drop rs).map V.str))) T3 (.tup [.ref g2, .int 1])) l1' (.lst [.ref T3])) T4 (.tup [.ref r0, .int ((b.2 : Int) - (wh : Int) - 1)])) l2 (.lst [.ref T4])) l3 (.lst (List.replicate k (V.ref T4)))) l4 (.lst ([.ref T3] ++ List.replicate k (V.ref T4)))) (a := l5) (o := .lst ([.ref T3] ++ List.replicate k (V.ref T4) ++ us5))
                    have kT3 := s8 _ _ (s47 _ _ (s3 _ _ (upd_same (a := T3) (o := .tup [.ref g2, .int 1]))))
                    have kg2 := s28 _ _ (upd_same (a := g2) (o := .lst ((b.1.drop rs).map V.str)))
                    have hbl := LBs.mk (H := _) (p := l5) (bs := [(b.1.drop rs, 1)] ++ List.replicate k (b.1, b.2 - wh - 1) ++ ls) ⟨_, kl5, pair_app (pair_app (.cons ⟨T3, g2, rfl, kT3, kg2⟩ .nil) hRep) (bkL_same s18 prL5)⟩
                    have hP8 := hP5.same s18
                    have yl5 := kp9.dom _ nl5
                    have wR : wr (List.replicate k (b.1, b.2 - wh - 1)) = one (b.1, b.2 - wh - 1) := by
                      rcases ek3 with ⟨e, lt⟩ | e
                      · rw [e]
                        show one (b.1, b.2 - wh - 1) ++ [] = _
                        rw [List.append_nil]
                      · rw [e, show b.2 - wh - 1 = 0 by have := ek2 e; omega]
                        rfl
                    have md : ∀ y ∈ b.1.drop rs, y ∈ b.1 := fun y h => List.mem_of_mem_drop h
                    have mt : ∀ y ∈ b.1.take rs, y ∈ b.1 := fun y h => List.mem_of_mem_take h
                    have hvl : ∀ c ∈ [(b.1.drop rs, 1)] ++ List.replicate k (b.1, b.2 - wh - 1) ++ ls, Vb c := fun c hc => by
                      rcases List.mem_append.mp hc with hc | hc
                      · rcases List.mem_append.mp hc with hc | hc
                        · rw [List.mem_singleton] at hc
                          exact hc ▸ vb1.part (by omega) (by omega) (by decide) (by decide) md
                        · have e := List.eq_of_mem_replicate hc
                          rcases ek3 with ⟨ee, lt⟩ | ee
                          · exact e ▸ vb1.part l1 m4 (by omega) (by omega) (fun _ h => h)
                          · rw [ee] at hc
                            exact absurd hc List.not_mem_nil
                      · exact vls c hc
                    have hvq : ∀ c ∈ qs3 ++ [(b.1.take rs, 1)], Vb c := fun c hc => by
                      rcases List.mem_append.mp hc with hc | hc
                      · exact vq3 c hc
                      · rw [List.mem_singleton] at hc
                        exact hc ▸ vb1.part (by omega) (by omega) (by decide) (by decide) mt
                    have hwr : wr (qs3 ++ [(b.1.take rs, 1)]) ++ wr ([(b.1.drop rs, 1)] ++ List.replicate k (b.1, b.2 - wh - 1) ++ ls) = wr ls0 := by
                      have m : one (b.1, wh) ++ (b.1.take rs ++ (b.1.drop rs ++ one (b.1, b.2 - wh - 1))) = one b := by
                        rw [← List.append_assoc (b.1.take rs), List.take_append_drop, ← one_succ, one_add, show wh + (b.2 - wh - 1 + 1) = b.2 by omega]
                      rw [wr_app, wr_app, wr_app, wR, wr_cons, wr_cons, wr_nil, List.append_nil, List.append_nil, one_one, one_one, wr3, ← eW2, wr_cons, ← m]
                      simp only [List.append_assoc]
                    have hct : (qs3 ++ [(b.1.take rs, 1)]).length + ([(b.1.drop rs, 1)] ++ List.replicate k (b.1, b.2 - wh - 1) ++ ls).length ≤ ls0.length + 3 := by
                      rw [List.length_append, List.length_append, List.length_append, List.length_replicate]
                      show qs3.length + 1 + (1 + k + ls.length) ≤ _
                      omega
                    have nlP : l5 ≠ Pc := fun z => by
                      rw [z, upd_same] at yl5
                      cases yl5
                    refine ⟨⟨l5, _, qs3 ++ [(b.1.take rs, 1)], _, _, _, _, _, _, rfl, hbl, hP8, hvl, hvq, hwr, ev, by rw [e5]; omega, fun z => by rw [e5] at z; omega, hct, kp10, .inr yl5, nlP⟩, ?_⟩
                    show ((s0 : Int) - _).toNat < ((s0 : Int) - dn).toNat
                    rw [ev, e5]
                    omega
                  · rw [decide_eq_false (show ¬ (0 : Int) < (rm : Int) - ((wh * b.1.length : Nat) : Int) by omega)]
                    refine iteF ⟨_, rfl, _, rfl, _, _, rfl, rfl, _, rfl, ?_⟩
                    rw [decide_eq_true (show (wh : Int) < (b.2 : Int) by omega)]
                    refine iteT ⟨_, rfl, _, rfl, _, rfl, _, _, rfl, rfl, (by show 2 ≤ sizeLine; decide), fun T4 n4 => ⟨(by show 1 ≤ sizeLine; decide), fun l1' nl1 => ?_⟩⟩
                    have s4 := same_upd (o := .tup [.ref r0, .int ((b.2 : Int) - (wh : Int))]) n4
                    have s5 := same_upd (o := .lst [.ref T4]) nl1
                    have kp5 := (kp3.new (o := .tup [.ref r0, .int ((b.2 : Int) - (wh : Int))]) n4).new (o := .lst [.ref T4]) nl1
                    refine ⟨_, rfl, l1', Lf, _, _, rfl, rfl, upd_same, s5 _ _ (s4 _ _ kL3), (by show 1 + us3.length ≤ sizeLine; exact Nat.le_trans (by omega) (by decide : 1000 ≤ sizeLine)), fun l5 nl5 => ?_⟩
                    have s8 := same_upd (o := .lst ([.ref T4] ++ us3)) nl5
                    have kp10 := kp5.new (o := .lst ([.ref T4] ++ us3)) nl5
                    have s48 := (s4.trans s5).trans s8
                    have kr8 := s48 _ _ kr3
                    refine ⟨_, rfl, _, rfl, r0, _, rfl, .inl (SqL.of kr8), _, rfl, _, _, rfl, rfl, wm2, _, rfl, _, _, rfl, _, _, rfl, rfl, ?_⟩
                    rw [elen, emul, emn _ rfl]
                    have e5 : (wr qs3).length = (wr qs).length + rm := by omega
                    have ev : dn + (rm : Int) = (((pcs.map wr).flatten.length + (wr qs3).length : Nat) : Int) := by
                      rw [e5]
                      omega
                    have e9 : (b.2 : Int) - (wh : Int) = ((b.2 - wh : Nat) : Int) := by omega
                    have kT4 := (s5.trans s8) _ _ (upd_same (a := T4) (o := .tup [.ref r0, .int ((b.2 : Int) - (wh : Int))]))
                    have yl5 := kp5.dom _ nl5
                    have nlP : l5 ≠ Pc := fun z => by
                      rw [z, upd_same] at yl5
                      cases yl5
                    have hvl : ∀ c ∈ (b.1, b.2 - wh) :: ls, Vb c := fun c hc => by
                      rcases List.mem_cons.mp hc with hc | hc
                      · exact hc ▸ vb1.part l1 l4 (by omega) (by omega) (fun _ h => h)
                      · exact vls c hc
                    have hwr : wr qs3 ++ wr ((b.1, b.2 - wh) :: ls) = wr ls0 := by
                      have m : one (b.1, wh) ++ one (b.1, b.2 - wh) = one b := by rw [one_add, show wh + (b.2 - wh) = b.2 by omega]
                      rw [wr3, ← eW2, wr_cons, wr_cons, ← m]
                      simp only [List.append_assoc]
                    have hct : qs3.length + ((b.1, b.2 - wh) :: ls).length ≤ ls0.length + 3 := by
                      rw [List.length_cons]
                      omega
                    have nb : BkL (upd (upd (upd X3 T4 (.tup [.ref r0, .int ((b.2 : Int) - (wh : Int))])) l1' (.lst [.ref T4])) l5 (.lst ([.ref T4] ++ us3))) (b.1, b.2 - wh) (.ref T4) := ⟨T4, r0, rfl, kT4.trans (congrArg (fun z : Int => some (HO.tup [.ref r0, .int z])) e9), kr8⟩
                    have hbl := LBs.mk (H := _) (p := l5) (bs := (b.1, b.2 - wh) :: ls) ⟨_, upd_same (H := upd (upd X3 T4 (.tup [.ref r0, .int ((b.2 : Int) - (wh : Int))])) l1' (.lst [.ref T4])) (a := l5) (o := .lst ([.ref T4] ++ us3)), .cons nb (bkL_same s48 prL3)⟩
                    have hP8 := (⟨vs3, kP3, prP3⟩ : LBs X3 Pc qs3).same s48
                    refine ⟨⟨l5, _, qs3, _, _, _, _, _, _, rfl, hbl, hP8, hvl, vq3, hwr, ev, by rw [e5]; omega, fun z => by rw [e5] at z; omega, hct, kp10, .inr yl5, nlP⟩, ?_⟩
                    show ((s0 : Int) - _).toNat < ((s0 : Int) - dn).toNat
                    rw [ev, e5]
                    omega
                · rw [decide_eq_false (show ¬ (wh : Int) < (b.2 : Int) by omega)]
                  refine iteF (iteF ⟨_, rfl, _, rfl, _, _, rfl, rfl, _, rfl, ?_⟩)
                  rw [decide_eq_false (show ¬ (wh : Int) < (b.2 : Int) by omega)]
                  refine iteF ⟨_, rfl, _, rfl, r0, _, rfl, .inl (SqL.of kr3), _, rfl, _, _, rfl, rfl, wm2, _, rfl, _, _, rfl, _, _, rfl, rfl, ?_⟩
                  rw [elen, emul]
                  have hw : b.2 ≤ rm / b.1.length := by omega
                  have hm : b.2 * b.1.length ≤ rm := (Nat.le_div_iff_mul_le l1).mp hw
                  have hm2 : b.1.length * b.2 = b.2 * b.1.length := Nat.mul_comm ..
                  have hp : 1 ≤ b.1.length * b.2 := Nat.mul_pos l1 b1
                  have ewb : wh = b.2 := by omega
                  subst ewb
                  have e3 : (wr qs3).length = (wr qs).length + b.1.length * b.2 := by rw [wr3, List.length_append, len_one]
                  have ev : dn + (if (rm : Int) < ((b.1.length * b.2 : Nat) : Int) then (rm : Int) else ((b.1.length * b.2 : Nat) : Int)) = (((pcs.map wr).flatten.length + (wr qs3).length : Nat) : Int) := by
                    rw [if_neg (by omega)]
                    omega
                  have c1' := c1 (by omega)
                  have lc : (b :: ls).length = ls.length + 1 := rfl
                  refine ⟨⟨Lf, ls, qs3, _, _, _, _, _, _, rfl, ⟨us3, kL3, prL3⟩, ⟨vs3, kP3, prP3⟩, vls, vq3, ?_, ev, by omega, fun _ => by omega, by omega, kp3, alt, nLPc⟩, ?_⟩
                  · rw [wr3, List.append_assoc, ← eW2]
                    rfl
                  · show ((s0 : Int) - _).toNat < ((s0 : Int) - dn).toNat
                    rw [ev]
                    omega
        · rw [decide_eq_false t1]
          refine iteF (iteF ?_)
          obtain ⟨g, kF2⟩ := fin _ (fun _ _ e => e) (by omega)
          refine ⟨_, rfl, .inl ⟨rfl, _, SqL.of kF2⟩, _, rfl, F, _, _, rfl, rfl, kF2, szF, g⟩
      · intro σ H Q Q' h
        rintro ⟨x, h1, y, h2, i, j, e1, e2, b, e3, h3⟩
        refine ⟨x, h1, y, h2, i, j, e1, e2, b, e3, ?_⟩
        by_cases c : b = true
        · rw [if_pos c] at h3 ⊢
          obtain ⟨z, h4, h5, h6⟩ := h3
          refine ⟨z, h4, h5, fun p np => ?_⟩
          obtain ⟨d, e, a1, a2, a3, a4, b2, e4, h7⟩ := h6 p np
          exact ⟨d, e, a1, a2, a3, a4, b2, e4, h _ _ h7⟩
        · rw [if_neg c] at h3 ⊢
          exact h _ _ h3
    · obtain ⟨Lf, ads, pcs, ls, dn, x5, x6, x7, x8, x9, x10, x11, rfl, kF, kA, pl, hL, vl, vp, eW, ed, el, cnt, n1, n2, n3, f1, f2, f3, sX⟩ := pw
      obtain ⟨as, hs, rfl⟩ : ∃ as hs, pcs = [as, hs] := by
        match pcs, pl with
        | [a, b], _ => exact ⟨a, b, rfl⟩
      obtain ⟨A, B, rfl⟩ : ∃ A B, ads = [A, B] := by
        have l2 : ads.length = 2 := (pair_len kA).symm
        match ads, l2 with
        | [a, b], _ => exact ⟨a, b, rfl⟩
      cases kA with
      | cons hA r =>
        cases r with
        | cons hBB r2 =>
          have e1 : (wr as).length = n := by injection el
          have e2 : (wr hs).length = 1 := by injection el with _ el; injection el
          refine ⟨_, rfl, _, rfl, (by show 1 ≤ sizeLine; decide), fun l nl => ?_⟩
          have sl := same_upd (o := .lst [.ref Lf]) nl
          refine ⟨F, l, _, _, rfl, rfl, sl _ _ kF, upd_same, (by show 3 ≤ sizeLine; decide), fun R nR => ?_⟩
          have sR := sl.trans (same_upd (o := .lst ([V.ref A, V.ref B] ++ [V.ref Lf])) nR)
          refine q R A B Lf as hs ls _ upd_same (hA.same sR) (hBB.same sR) (hL.same sR) (vp as (List.mem_cons_self ..)) (vp hs (List.mem_cons_of_mem _ (List.mem_cons_self ..))) vl e1 e2 ?_ ?_ (sX.trans sR)
          · have z : (wr as ++ (wr hs ++ [])) ++ wr ls = wr bs := eW
            rw [List.append_nil, List.append_assoc] at z
            exact z
          · have z : (as.length + (hs.length + 0)) + ls.length ≤ bs.length + 3 * 2 := cnt
            omega
end
end LA
end
section
set_option Elab.async false
set_option linter.all false
set_option maxRecDepth 100000
set_option maxHeartbeats 4100000
namespace LA
open PySem L2 XS XT LM XV XO
theorem at_ex {bs : List (Bk Str)} {st : Nat} : ∀ k, k ≤ bs.length → st < (wr (bs.take k)).length → ∃ a, a < k ∧ (wr (bs.take a)).length ≤ st ∧ st < (wr (bs.take (a + 1))).length
  | 0, _, h => absurd h (by rw [List.take_zero, wr_nil]; exact Nat.not_lt_zero _)
  | k + 1, hk, h => by
    by_cases c : st < (wr (bs.take k)).length
    · obtain ⟨a, h1, h2, h3⟩ := at_ex k (Nat.le_of_lt hk) c
      exact ⟨a, Nat.lt_succ_of_lt h1, h2, h3⟩
    · exact ⟨k, Nat.lt_succ_self _, by omega, h⟩
theorem at_of {bs : List (Bk Str)} {st : Nat} (h : st < (wr bs).length) : ∃ a, At bs a st ∧ a < bs.length ∧ st < (wr (bs.take (a + 1))).length := by
  obtain ⟨a, h1, h2, h3⟩ := at_ex (bs := bs) (st := st) bs.length (Nat.le_refl _) (by rw [List.take_length]; exact h)
  exact ⟨a, ⟨Nat.le_of_lt h1, h2, fun _ => ⟨h1, h3⟩⟩, h1, h3⟩
theorem ends_mem {bs : List (Bk Str)} {a : Nat} (h : a < bs.length) : ((wr (bs.take (a + 1))).length : Int) ∈ endsOf bs := List.mem_of_getElem? (endsOf_at h)
theorem ends_le {bs : List (Bk Str)} {k : Int} (h : k ∈ endsOf bs) : k ≤ ((wr bs).length : Int) := by
  unfold endsOf at h
  obtain ⟨i, _, rfl⟩ := List.mem_map.mp h
  have := take_le (bs := bs) (i + 1)
  omega
theorem ends_pos {bs : List (Bk Str)} (v : ∀ b ∈ bs, Vb b) {k : Int} (h : k ∈ endsOf bs) : 1 ≤ k := by
  unfold endsOf at h
  obtain ⟨i, hi, rfl⟩ := List.mem_map.mp h
  have il : i < bs.length := List.mem_range.mp hi
  have eb : bs[i]? = some bs[i] := List.getElem?_eq_getElem il
  have vb := v _ (List.getElem_mem il)
  rw [wr_take eb]
  have := Nat.mul_pos vb.l1 vb.t1
  omega
/-- the whole size is an end -/
theorem ends_all {bs : List (Bk Str)} (h : bs ≠ []) : ((wr bs).length : Int) ∈ endsOf bs := by
  have l : 0 < bs.length := List.length_pos_iff.mpr h
  have z := ends_mem (bs := bs) (a := bs.length - 1) (by omega)
  rw [show bs.length - 1 + 1 = bs.length by omega, List.take_length] at z
  exact z
theorem seg_in {bs : List (Bk Str)} {st e : Nat} (h0 : ∀ k ∈ endsOf bs, (st : Int) < k → (e : Int) ≤ k) (h : st < (wr bs).length) : e ≤ (wr bs).length := by
  obtain ⟨a, A, ha, hs⟩ := at_of h
  have z := h0 _ (ends_mem ha) (by omega)
  have := take_le (bs := bs) (a + 1)
  omega
/-- between two ends both texts repeat something: twelve lines tell all -/
theorem seg_alike {bs cs : List (Bk Str)} (vb : ∀ b ∈ bs, Vb b) (vc : ∀ b ∈ cs, Vb b) {st e : Nat} (hb : ∀ k ∈ endsOf bs, (st : Int) < k → (e : Int) ≤ k) (hc : ∀ k ∈ endsOf cs, (st : Int) < k → (e : Int) ≤ k)
    (lb : st < (wr bs).length) (lc : st < (wr cs).length) (far : st + 12 ≤ e) (h : ∀ m, m < st + 12 → (wr bs)[m]? = (wr cs)[m]?) : ∀ m, m < e → (wr bs)[m]? = (wr cs)[m]? := by
  obtain ⟨a, A, ha, hs⟩ := at_of lb
  obtain ⟨c, B, hc2, hs2⟩ := at_of lc
  have ea := hb _ (ends_mem ha) (by omega)
  have ec := hc _ (ends_mem hc2) (by omega)
  have gb : bs[a]? = some bs[a] := List.getElem?_eq_getElem ha
  have gc : cs[c]? = some cs[c] := List.getElem?_eq_getElem hc2
  have va := vb _ (List.getElem_mem ha)
  have vp := vc _ (List.getElem_mem hc2)
  have l4 := va.l4
  have m4 := vp.l4
  have ga : ∀ n, st + n < e → _ := fun n hn => A.get gb (n := n) (by omega)
  have gp : ∀ n, st + n < e → _ := fun n hn => B.get gc (n := n) (by omega)
  intro m hm
  by_cases d : m < st
  · exact h m (by omega)
  · have em : m = st + (m - st) := by omega
    rw [em, ga (m - st) (by omega), gp (m - st) (by omega)]
    refine rows_alike va.l1 vp.l1 (many := 12) (by omega) (fun n hn => ?_) (m - st)
    rw [← ga n (by omega), ← gp n (by omega)]
    exact h (st + n) (by omega)
/-- ascending numbers -/
theorem asc_lt {ns : List Int} (h : ns.Pairwise (· < ·)) {i j : Nat} {x y : Int} (hi : ns[i]? = some x) (hj : ns[j]? = some y) (lt : i < j) : x < y := by
  obtain ⟨h1, e1⟩ := List.getElem?_eq_some_iff.mp hi
  obtain ⟨h2, e2⟩ := List.getElem?_eq_some_iff.mp hj
  rw [← e1, ← e2]
  exact List.pairwise_iff_getElem.mp h i j h1 h2 lt
end LA
end
section
set_option Elab.async false
set_option linter.all false
set_option maxRecDepth 100000
set_option maxHeartbeats 4100000
namespace XL
open PySem PySem.Spec PyProof.Rows L2
/-! ### range(a, b) of numbers of any size -/
theorem turn_wide {P : Program} {w : World} {K : PySem.W.Frag} {tg : Expr} (z : Addr) (b : Int) (m : Nat) :
    Turn P w K tg (Itr b m) [z] z (fun j h => IsLongIter h z (b + (j : Nat) * 1) ((m : Int) - (j : Nat)) 1) where
  mem := List.mem_singleton.mpr rfl
  keep := fun j h h' st same => same z (List.mem_singleton.mpr rfl) _ st
  self := fun _ _ _ _ _ st h => wpAny_pyIter_longiter st h
  obj := fun j h st y hy => by
    rw [List.mem_singleton] at hy
    subst hy
    refine ⟨_, st, fun v c => ?_⟩
    have c' : Data.fields _ = Data.cell v := c
    cases c'
  item := by
    intro X e1 e2 e3 calm j pins s σ H E I fr st go
    subst e1 e2 e3
    obtain ⟨a0, a1, a2, a3, a4, a5⟩ := fr z (List.mem_singleton.mpr rfl)
    refine (Walks.longrange (prog := X.prog) (w := X.w) (I.ok.hd calm) z b 1 m).item j s _ _ go st fun v h2 t2 hv st2 kk => ?_
    obtain ⟨t, ev⟩ := hv
    subst ev
    have J : Inv X pins σ H { s with heap := h2, toks := t2 } := I.turned (fun y o hy e => kk y o (by simpa using hy) e) a0 a1 a3 a4 a5
    exact ⟨_, rfl, go_of (s := { s with heap := h2, toks := t2 }) (n := "longrange_iterator") st2 rfl rfl (by decide) ⟨.int (b + j), H, J, ⟨t, by rw [Int.mul_one]⟩, ⟨rfl, rfl⟩, st2, fun y hy => (fr y hy).1⟩⟩
  done := by
    intro X e1 e2 e3 calm j pins s σ H E I fr st stop
    subst e1 e2 e3
    obtain ⟨a0, a1, a2, a3, a4, a5⟩ := fr z (List.mem_singleton.mpr rfl)
    refine wpAny_pyNext_long_end (I.ok.hd calm) st (by have : m ≤ j := stop; omega) fun h2 eb => ⟨rfl, ?_⟩
    exact I.turned (t' := s.toks) (fun y o hy e => eb y o hy e) a0 a1 a3 a4 a5
section
variable {X : Cx} {tg : Expr}
abbrev rgObj (lo hi : Int) (t u v : Tok) : Obj := { cls := .type "range", data := .fields #[.int lo t, .int hi u, .int 1 v] }
theorem wide_it {pins : List (Addr × Obj)} {σ : L2.St} {H : Hp} {s : Shared} {R : It → Hp → Prop} {E : Value → Shared → Prop} {lo hi : Int} {t u v : Tok} {tk : Nat} (I : Inv X pins σ H s) (q : R (Itr lo (hi - lo).toNat) H) :
    wpAny (model X.prog X.w) X.A (pyIter (.ref s.heap.objs.size)) (PIE X pins σ tg R) E { s with heap := s.heap.push (rgObj lo hi t u v), toks := tk } := by
  have J : Inv X pins σ H { s with heap := s.heap.push (rgObj lo hi t u v), toks := tk } := I.kept fun y o e => Heap.get?_push_of_some _ e
  have e1 : lo + ((0 : Nat) : Int) * 1 = lo := by simp
  have e2 : (((hi - lo).toNat : Nat) : Int) - ((0 : Nat) : Int) = Builtin.Range.rangeSize lo hi 1 := by
    rw [rangeSize_one]
    split <;> omega
  have fresh : ∀ y, y ∈ [(s.heap.push (rgObj lo hi t u v)).objs.size] → FpOk X pins H y := fun y hy => by
    rw [List.mem_singleton] at hy
    subst hy
    exact J.fpOk (Nat.le_refl _) (J.hok.fresh (Nat.le_refl _))
  by_cases sm : Builtin.Range.small lo hi 1 = true
  · refine wpAny_pyIter_range (IsRange.new ..) sm ?_
    refine ⟨(s.heap.push (rgObj lo hi t u v)).objs.size, [(s.heap.push (rgObj lo hi t u v)).objs.size], _, _, H, rfl, I.kept (t' := tk) fun y o e => Heap.get?_push_of_some _ (Heap.get?_push_of_some _ e), turn_range _ lo (hi - lo).toNat, ?_, fresh, q⟩
    show IsRangeIter _ _ (lo + ((0 : Nat) : Int) * 1) ((((hi - lo).toNat : Nat) : Int) - ((0 : Nat) : Int)) 1
    rw [e1, e2]
    exact Heap.get?_push_size _ rfl
  · refine wpAny_pyIter_longrange (IsRange.new ..) (by simpa using sm) ?_
    refine ⟨(s.heap.push (rgObj lo hi t u v)).objs.size, [(s.heap.push (rgObj lo hi t u v)).objs.size], _, _, H, rfl, I.kept (t' := tk) fun y o e => Heap.get?_push_of_some _ (Heap.get?_push_of_some _ e), turn_wide _ lo (hi - lo).toNat, ?_, fresh, q⟩
    show IsLongIter _ _ (lo + ((0 : Nat) : Int) * 1) ((((hi - lo).toNat : Nat) : Int) - ((0 : Nat) : Int)) 1
    rw [e1, e2]
    exact Heap.get?_push_size _ rfl
/-- range(a, b): no bounds -/
def iRngW (ta : TA) : TI := fun σ H R => ta σ H fun vs H1 => ∃ i j : Int, vs = [.int i, .int j] ∧ R (Itr i (j - i).toNat) H1
theorem pi_rangeW {a b : Expr} {ta : TA} {p pos : Pos} (hg : Gl X "range") (hm : X.mg "range" = none) (ha : PA X [a, b] ta) (n1 : starEach [a, b] X.env = [(false, eval a X.env), (false, eval b X.env)] := by rfl) (n2 : starEach [b] X.env = [(false, eval b X.env)] := by rfl) :
    PI X tg (.Call (.Name "range" p) [a, b] [] pos) (iRngW ta) := by
  refine ⟨fun pins s σ H R I h => ?_⟩
  have m1 : _ := n1
  refine Call_ (ld_blt I hg hm boot_range (PyProof.Rows.callWith_type1 (thn (ha.run pos pins s σ H _ I h) fun us s1 ⟨vs, H1, I1, r1, i, j, e, q⟩ => ?_) (by rw [n1, n2]) (by rw [n2]; rfl)))
  subst e
  obtain ⟨u1, u2, rfl, r, r'⟩ := r1.two
  obtain ⟨t, rfl⟩ := (show ∃ t, u1 = Value.int i t from r)
  obtain ⟨t', rfl⟩ := (show ∃ t, u2 = Value.int j t from r')
  exact call_range_2 (wide_it I1 q)
end
end XL
end
section
set_option Elab.async false
set_option linter.all false
set_option maxRecDepth 100000
set_option maxHeartbeats 4100000
namespace XL
open PySem PySem.Spec PyProof.Rows L2
/-! ### set(xs), xs a list of ints, as a set that can be sorted -/
abbrev sE (w : World) : Obj := { cls := .type "set", dict := none, data := .set #[] 0 (.fresh 0 0 (!w.params.followText "set-order")) }
abbrev lItr (l : Addr) : Obj := { cls := .type "list_iterator", data := .fields #[.ref l, .int 0 0] }
section
variable {P : Program} {w : World} {A : Around} {E : Value → Shared → Prop} {s : Shared}
theorem set_ints {l : Addr} {its : Array Value} (ks : List Int) {Q : Value → Shared → Prop} (calm : A.handled = none) (isl : s.heap.IsList l its) (are : IntsAre its.toList ks) (few : ks.length + 1 < scanBound)
    (h : ∀ (h2 : Heap) (tk c : Nat), SetR w h2 s.heap.objs.size (fun j => decide (j ∈ ks)) c → c ≤ ks.length → (∀ y o, s.heap.get? y = some o → h2.get? y = some o) → Q (.ref s.heap.objs.size) { s with heap := h2, toks := tk }) :
    wpAny (model P w) A (call (.type "set") [.ref l]) Q E s := by
  have sz : its.size = ks.length := (Array.length_toList).symm.trans (IntsAre.length are)
  obtain ⟨c, tl, order⟩ := F.called_set.mro
  have made := F.called_set.made
  have below := F.called_set.sub
  refine wpAny_call
        (codeAny_of_tree ?_)
  show wpAny _ _ (callAny
        (.type "set") _) _ _ _
  refine wpAny_pure ⟨Code.quiet_builtin _ (by
        decide +kernel), codeAny_builtin F.entry_type_call ?_⟩
  rw [Around.under_plain (weight_type_call_type "set" [.ref l] []) rfl]
  have no1 := F.called_set.notType
  have can := F.called_set.canCreate
  have ct := F.typeCall_set_1 (.ref l)
  repeat (any_goals (first
        | assumption | wp_step))
  refine codeAny_mono (code_set_led1 (.ref l) (E := E) (Q₁ := fun obj s₁ => obj = .ref s.heap.objs.size ∧ s₁ = { s with heap := s.heap.push (sE w) }) ⟨rfl, rfl⟩) fun r s₁ hr => ?_
  cases r with
  | error e => exact hr
  | ok fl =>
    cases fl with
    | ret obj =>
      obtain ⟨rfl, rfl⟩ := hr
      have hS : (s.heap.push (sE w)).get? s.heap.objs.size = some (sE w) := Heap.get?_push_size _ rfl
      have hT : Shared.TypeIs { s with heap := s.heap.push (sE w) } (.ref s.heap.objs.size) "set" := ⟨_, hS, rfl⟩
      have lookI := F.called_set.init.lookup
      have bindI := F.called_set.init.bind (.ref s.heap.objs.size)
      repeat (any_goals (first
            | assumption | wp_step))
      refine codeAny_mono (codeAny_call_builtin (R := wants (fun r s₂ => r = .none ∧ ∃ h2 tk c, s₂ = { s with heap := h2, toks := tk } ∧ SetR w h2 s.heap.objs.size (fun j => decide (j ∈ ks)) c ∧ c ≤ ks.length ∧
          (∀ y o, s.heap.get? y = some o → h2.get? y = some o)) E) F.called_set.init.plain F.entry_set_init (check_set_init_1 hT ?_)) fun r₂ s₂ hr₂ => ?_
      · obtain ⟨⟨ocls, odict, odata, oslots⟩, hol, hcl, nl, hdl⟩ := isl
        simp only at hcl hdl
        subst hcl
        subst hdl
        have hol2 : (s.heap.push (sE w)).get? l = some { cls := .type "list", dict := odict, data := .seq its nl, slots := oslots } := Heap.get?_push_of_some _ hol
        have n1 := F.sub_list_set
        have n2 := F.sub_list_frozenset
        have n3 : (Value.type "list" == Value.type "dict") = false := by decide
        have isl2 : (s.heap.push (sE w)).IsList l its := ⟨_, hol2, rfl, nl, rfl⟩
        unfold Builtin.«set.__init__»
              noKeywords Builtin.Frozenset.updateFrom
        generalize hPI : pyIter = PI
        wp_walk
        subst hPI
        refine wpAny_pyIter_list isl2 ?_
        refine wpAny_bind
              (wpAny_runValue ?_)
        have lS : l < s.heap.objs.size := Heap.lt_size hol
        have hh3 : A.in1.in1.in1.handled = none := by simp [calm]
        have neI : l ≠ (s.heap.push (sE w)).objs.size := by
          rw [Heap.size_push]
          exact Nat.ne_of_lt (Nat.lt_succ_of_lt lS)
        have off : s.heap.objs.size ∉ [(s.heap.push (sE w)).objs.size, l] := by
          rw [Heap.size_push]
          simp only [List.mem_cons, List.mem_singleton, List.not_mem_nil, or_false, not_or]
          exact ⟨Nat.ne_of_lt (Nat.lt_succ_self _), Nat.ne_of_gt lS⟩
        have val : ∀ (i : Nat) (v : Value), its[i]? = some v → ∃ k t, ks[i]? = some k ∧ v = .int k t := fun i v hv => by
          have hi : i < ks.length := by
            rw [← sz]
            exact (Array.getElem?_eq_some_iff.mp hv).1
          obtain ⟨t, e⟩ := PyProof.Rows.IntsAre.int_at are i v (by rw [Array.getElem?_toList]; exact hv)
          refine ⟨ks[i], t, List.getElem?_eq_getElem hi, e.trans ?_⟩
          rw [List.getD_eq_getElem?_getD, List.getElem?_eq_getElem hi]
          rfl
        have got : ((s.heap.push (sE w)).push (lItr l)).get? s.heap.objs.size = some (sE w) := Heap.get?_push_of_some _ hS
        refine set_update_ints ((Walks.list hh3 _ l neI its).toS) s.heap.objs.size off ks sz few val (its.size - 0) 0 _ (by omega) (Nat.zero_le _) ⟨⟨_, Heap.get?_push_size _ rfl, rfl, rfl⟩, isl2.push _⟩ ⟨0, Nat.le_refl 0, setR_new_at got⟩ fun s3 c3 mv le3 R3 => ?_
        obtain ⟨h3, g3, d3, t3, o3⟩ := s3
        obtain rfl : g3 = s.gens := mv.gens
        obtain rfl : d3 = s.drawn := mv.drawn
        obtain rfl : o3 = s.os := mv.os
        show wpAny _ _ _ _ _ _
        refine wpAny_pure ?_
        show wpAny _ _ (ret
              Value.none) _ _ _
        rw [sz] at le3
        refine wpAny_pure ⟨rfl, h3, t3, c3, rfl, R3, le3, fun y o e => ?_⟩
        have y0 : y < s.heap.objs.size := Heap.lt_size e
        refine mv.heap y o (fun z => ?_) (Heap.get?_push_of_some _ (Heap.get?_push_of_some _ e))
        rcases List.mem_cons.mp z with z | z
        · exact Nat.ne_of_lt y0 z
        · rw [List.mem_singleton, Heap.size_push] at z
          exact Nat.ne_of_lt (Nat.lt_succ_of_lt y0) z
      · cases r₂ with
        | error e => exact hr₂
        | ok fl₂ =>
          cases fl₂ with
          | ret r =>
            obtain ⟨rfl, h2, tk, c2, rfl, e1, e2, e3⟩ := hr₂
            repeat (any_goals (first
                  | assumption | wp_step))
            exact h _ _ _ e1 e2 e3
          | _ => exact hr₂.elim
    | _ => exact hr.elim
end
section
variable {X : Cx}
def rSetL (K : PySem.W.Frag) (w : World) : List V → Hp → VK → Prop := fun xs H Q => ∃ (a : Addr) (ks : List Int), xs = [V.ref a] ∧ SqL K H a (ks.map V.int) ∧ ks.length < 64 ∧ ∀ p c, H p = none → c ≤ ks.length → Q (.ref p) (upd H p (SetO w p (fun j => decide (j ∈ ks)) c))
theorem cr_setL (hc : X.calm = true) : CallR X (.type "set") (rSetL X.K X.w) := by
  intro pins s σ H xs us Q I r h
  obtain ⟨a, ks, rfl, hq, few, q⟩ := h
  rw [Vals.ref1 r]
  obtain ⟨its, rv, pl, hz⟩ := I.list hq
  refine set_ints (I.ok.hd hc) pl.isList (ks := ks) (by simpa using rv.ints) (by unfold scanBound; omega) fun h2 tk c R le k => ?_
  have hn : H s.heap.objs.size = none := I.hok.fresh (Nat.le_refl _)
  exact ⟨.ref s.heap.objs.size, _, I.laid (t' := tk) k (Nat.le_refl _) (setO_new R), rfl, q _ c hn le⟩
end
end XL
end
section
set_option Elab.async false
set_option linter.all false
set_option maxRecDepth 100000
set_option maxHeartbeats 8100000
namespace LA
open PySem L2 XS XT LM XV XO
abbrev sAp : Stmt := top 42
abbrev nAp : List Str := ["_law_one", "_law_more", "_law_sizes", "_law_edges", "_law_done", "_law_blocks", "_law_rows", "_law_times", "_law_start", "_law_edge", "_law_number"]
theorem scAp : FnScope nAp ["_law_one", "_law_more"] (defScope sAp) := ⟨rfl, rfl, rfl, by decide +kernel, rfl, by decide +kernel, by decide +kernel⟩
section
variable {P : Program} {w : World} {K : PySem.W.Frag} {mg : Str → Option Value} {base : Heap} {C : Addr}
/-- apart -/
def spAp : Sp := fun vs H Q _ => ∃ (p q : Addr) (bs cs : List (Bk Str)), vs = [.ref p, .ref q] ∧ LBs H p bs ∧ LBs H q cs ∧ (∀ b ∈ bs, Vb b) ∧ (∀ b ∈ cs, Vb b) ∧ bs.length ≤ 30 ∧ cs.length ≤ 30 ∧ ∀ r H', IsU (wr bs) (wr cs) r → Same H H' → Q (unV (upN r)) H'
theorem ok_ap {f f1 f2 : Addr} {fd fd1 fd2 : FuncData} (F : Fun K "_law_apart" "_law_apart" sAp f fd) (mL : mg "len" = none) (mM : mg "min" = none) (mR : mg "range" = none) (mSo : mg "sorted" = none) (mSe : mg "set" = none)
    (LS : CallOf P w K mg base 1 "_law_lsize" ["_law_blocks"] spLS f1 fd1) (LL : CallOf P w K mg base 1 "_law_lline" ["_law_blocks", "_law_slot"] spLL f2 fd2) : FnOk P w K mg base CX0 2 f fd ["_law_one", "_law_more"] spAp := by
  refine F.ok scAp (fun vs H Q E h => ?_) (fun cdv A outer s H vs Q E hr h => ?_)
  · obtain ⟨p, q, bs, cs, rfl, _⟩ := h
    rfl
  · obtain ⟨p, q, bs, cs, rfl, hB, hC, vb, vc, lb, lc, k⟩ := h
    refine ⟨_, pss_cons (by exact (ps_set (i := 2) scAp.nd rfl (.inl rfl) (pe_lst (pa_cons (pe_call LS.ok hr rfl LS.m LS.k LS.b .nil pass0 (pa_cons (pv 0) pa_nil)) (pa_cons (pe_call LS.ok hr rfl LS.m LS.k LS.b .nil pass0 (pa_cons (pv 1) pa_nil)) pa_nil)))))
      (pss_cons (by exact (ps_par (i := 3) (j := 4) (by rfl) scAp.nd rfl rfl (by decide) rfl rfl (pa_cons (pe_lst pa_nil) (pa_cons pe_int pa_nil)) (by rfl)))
      (pss_cons (by exact (ps_for PassesOwn.never rfl (pi_tup (pe_tup (pa_cons (pv 0) (pa_cons (pv 1) pa_nil)))) (by exact (pg_name (i := 5) scAp.nd rfl (Or.inl rfl))) (pss_cons (by exact (ps_set (i := 4) scAp.nd rfl (.inl rfl) pe_int))
      (pss_one (by exact (ps_for PassesOwn.never rfl (pi_list (pv 5)) (pg_tup rfl (pgs_cons (by exact (pg_name (i := 6) scAp.nd rfl (Or.inl rfl))) (pgs_cons (by exact (pg_name (i := 7) scAp.nd rfl (Or.inl rfl))) pgs_nil))) (pss_cons (by exact (ps_set (i := 4) scAp.nd rfl (.inl rfl) (pe_op op_add (pv 4) (pe_op op_mulW (pe_callB call_len_seq (by rfl) mL PySem.boot_len (pa_cons (pv 6) pa_nil)) (pv 7)))))
      (pss_one (by exact (ps_expr (pe_bm PySem.F.plainAttrs_list PySem.F.slot_list_append PySem.F.type_list_append mt_append (pv 3) (pa_cons (pv 4) pa_nil))))))))))))
      (pss_cons (by exact (ps_set (i := 8) scAp.nd rfl (.inl rfl) pe_int))
      (pss_cons (by exact (ps_for PassesOwn.never rfl (pi_list (pe_callB (cr_sortedSet rfl) (by rfl) mSo (by decide +kernel) (pa_cons (pe_callTy (XL.cr_setL rfl) (by rfl) mSe (by decide +kernel) (pa_cons (pv 3) pa_nil)) pa_nil))) (by exact (pg_name (i := 9) scAp.nd rfl (Or.inl rfl))) (pss_cons (by exact (ps_for PassesOwn.never rfl (XL.pi_rangeW rfl mR (pa_cons (pe_op op_add (pv 8) pe_int) (pa_cons (pe_op op_add (pe_callB (call_min2 rfl) (by rfl) mM (by decide +kernel) (pa_cons (pv 9) (pa_cons (pe_op op_add (pv 8) pe_int) pa_nil))) pe_int) pa_nil))) (by exact (pg_name (i := 10) scAp.nd rfl (Or.inl rfl))) (pss_one (by exact (ps_if (PW.pt (pw_or (pt_cmpR op_gt (pv 10) (pe_callB (cr_min rfl) (by rfl) mM (by decide +kernel) (pa_cons (pv 2) pa_nil)) (nomark _)) (pw_or1 (pt_cmpR op_ne (pe_call LL.ok hr rfl LL.m LL.k LL.b .nil pass0 (pa_cons (pv 0) (pa_cons (pv 10) pa_nil))) (pe_call LL.ok hr rfl LL.m LL.k LL.b .nil pass0 (pa_cons (pv 1) (pa_cons (pv 10) pa_nil))) (nomark _))))) (pss_one (by exact (ps_ret (pv 10)))) pss_nil)))))
      (pss_one (by exact (ps_set (i := 8) scAp.nd rfl (.inl rfl) (pv 9)))))))
      (pss_one (by exact (ps_ret pe_non))))))), ?_⟩
    refine ⟨_, rfl, p, bs, rfl, hB, vb, by omega, fun H1 s1 => ⟨_, rfl, q, cs, rfl, hC.same s1, vc, by omega, fun H2 s2 => ⟨(by show 2 ≤ sizeLine; decide), fun Z nZ => ?_⟩⟩⟩
    have sZ := same_upd (o := .lst [.int ((wr bs).length : Int), .int ((wr cs).length : Int)]) nZ
    refine ⟨(by show 0 ≤ sizeLine; decide), fun G nG => ⟨_, _, rfl, ?_⟩⟩
    have sG := same_upd (o := .lst []) nG
    have hG0 : H G = none := ((s1.trans s2).trans sZ).free nG
    refine ⟨_, rfl, _, rfl, (by show 2 ≤ sizeLine; decide), fun T nT => ?_⟩
    have sT := same_upd (o := .tup [.ref p, .ref q]) nT
    have s5 := (((s1.trans s2).trans sZ).trans sG).trans sT
    have nTG : T ≠ G := (ne_of_none (upd_same (H := upd H2 Z (.lst [.int ((wr bs).length : Int), .int ((wr cs).length : Int)])) (a := G) (o := .lst [])) nT).symm
    have nZG : Z ≠ G := ne_of_none upd_same nG
    have kZ5 := (sG.trans sT) _ _ (upd_same (H := H2) (a := Z) (o := .lst [.int ((wr bs).length : Int), .int ((wr cs).length : Int)]))
    have kG5 := sT _ _ (upd_same (H := upd H2 Z (.lst [.int ((wr bs).length : Int), .int ((wr cs).length : Int)])) (a := G) (o := .lst []))
    have kT5 := upd_same (H := upd (upd H2 Z (.lst [.int ((wr bs).length : Int), .int ((wr cs).length : Int)])) G (.lst [])) (a := T) (o := .tup [.ref p, .ref q])
    generalize upd (upd (upd H2 Z (.lst [.int ((wr bs).length : Int), .int ((wr cs).length : Int)])) G (.lst [])) T (.tup [.ref p, .ref q]) = H5 at s5 kZ5 kG5 kT5 ⊢
    have sH : ∀ X, But G H5 X → Same H X := fun X bX c o e => bX _ _ (s5 _ _ e) (ne_of_none e hG0)
    refine ⟨T, rfl, ⟨_, SqT.of kT5⟩, for_it (walk_tup (K := K) (a := T) (xs := [.ref p, .ref q])) (fun i σ X => (∃ x4 x5 x6 x7 x8 x9 x10 : Option V, σ = [some (.ref p), some (.ref q), some (.ref Z), some (.ref G), x4, x5, x6, x7, x8, x9, x10]) ∧ X G = some (.lst (((([bs, cs].take i).map endsOf).flatten).map V.int)) ∧ But G H5 X) ⟨⟨_, _, _, _, _, _, _, rfl⟩, kG5, But.refl⟩ (fun i σ X _ pw => SqT.of (pw.2.2 _ _ kT5 nTG)) (fun i x σ X X' hi pw yl => ?_) (fun σ X pw => ?_)⟩
    · obtain ⟨⟨x4, x5, x6, x7, x8, x9, x10, rfl⟩, kG, bX⟩ := pw
      obtain ⟨rfl, hx⟩ := yl
      obtain ⟨pp, ds, rfl, hD, vd, ld, ee⟩ : ∃ pp ds, x = .ref pp ∧ LBs H pp ds ∧ (∀ b ∈ ds, Vb b) ∧ ds.length ≤ 30 ∧ (([bs, cs].take (i + 1)).map endsOf).flatten = (([bs, cs].take i).map endsOf).flatten ++ endsOf ds := by
        have hi2 : i < 2 := hi
        rcases (show i = 0 ∨ i = 1 by omega) with rfl | rfl
        · exact ⟨p, bs, (Option.some.inj hx).symm, hB, vb, lb, by show endsOf bs ++ [] = [] ++ endsOf bs; rw [List.append_nil]; rfl⟩
        · exact ⟨q, cs, (Option.some.inj hx).symm, hC, vc, lc, by show endsOf bs ++ (endsOf cs ++ []) = (endsOf bs ++ []) ++ endsOf cs; rw [List.append_nil, List.append_nil]⟩
      have el0 : ((([bs, cs].take i).map endsOf).flatten).length ≤ 60 := by
        have hi2 : i < 2 := hi
        rcases (show i = 0 ∨ i = 1 by omega) with rfl | rfl
        · exact Nat.zero_le _
        · show (endsOf bs ++ []).length ≤ 60
          rw [List.append_nil, endsOf_len]
          omega
      generalize (([bs, cs].take i).map endsOf).flatten = es0 at kG ee el0
      obtain ⟨us, kp, pr⟩ := hD.ex
      refine ⟨_, rfl, pp, rfl, ⟨_, SqL.of (sH _ bX _ _ kp)⟩, for_it (walk_list (K := K) (a := pp) (xs := us)) (fun j σ X => (∃ (x6 x7 x8 x9 x10 : Option V) (e : Int), σ = [some (.ref p), some (.ref q), some (.ref Z), some (.ref G), some (.int e), some (.ref pp), x6, x7, x8, x9, x10] ∧ e = ((wr (ds.take j)).length : Int)) ∧ X G = some (.lst ((es0 ++ (endsOf ds).take j).map V.int)) ∧ But G H5 X) ⟨⟨_, _, _, _, _, 0, rfl, rfl⟩, by rw [List.take_zero, List.append_nil]; exact kG, bX⟩ (fun j σ X _ pw => SqL.of (sH _ pw.2.2 _ _ kp)) (fun j x σ X X' hj pw yl => ?_) (fun σ X pw => ?_)⟩
      · obtain ⟨⟨x6, x7, x8, x9, x10, e, rfl, ee2⟩, kG, bX⟩ := pw
        obtain ⟨rfl, hx⟩ := yl
        obtain ⟨b, hb, tb, ab, rfl, h1, h2⟩ := pair_at pr hx
        have v := vd b (List.mem_of_getElem? hb)
        have hjl : j < ds.length := (List.getElem?_eq_some_iff.mp hb).1
        have e1 : ((b.1.map V.str).length : Int) = (b.1.length : Int) := by rw [List.length_map]
        refine ⟨tb, _, rfl, SqT.of (sH _ bX _ _ h1), rfl, _, _, rfl, _, _, rfl, rfl, ?_⟩
        refine ⟨_, rfl, _, rfl, ab, _, rfl, .inl (SqL.of (sH _ bX _ _ h2)), _, rfl, _, _, rfl, rfl, wide_mul (by rw [e1]; exact rows_small v.l4) (times_small v.t30) (by decide) (by decide) (by decide), _, _, rfl, rfl, ?_⟩
        refine ⟨_, rfl, .inl ⟨rfl, _, SqL.of kG⟩, _, rfl, G, _, _, rfl, rfl, kG, ?_, ?_⟩
        · rw [List.length_map, List.length_append, List.length_take]
          have : min j (endsOf ds).length ≤ (endsOf ds).length := Nat.min_le_right _ _
          rw [endsOf_len] at this
          exact Nat.lt_of_le_of_lt (by rw [endsOf_len]; omega : _ ≤ 100) (by decide)
        · have e2 : e + (((b.1.map V.str).length : Nat) : Int) * ((b.2 : Nat) : Int) = ((wr (ds.take (j + 1))).length : Int) := by
            rw [wr_take hb, Int.natCast_add, Int.natCast_mul, e1, ee2]
          refine ⟨⟨_, _, _, _, _, _, rfl, e2⟩, ?_, bX.trans but_upd⟩
          rw [List.take_succ, endsOf_at hjl, ← e2, ← List.append_assoc, List.map_append (l₁ := es0 ++ _)]
          exact upd_same
      · obtain ⟨⟨x6, x7, x8, x9, x10, e, rfl, ee2⟩, kG, bX⟩ := pw
        rw [← pair_len pr, ← endsOf_len ds, List.take_length, ← ee] at kG
        exact ⟨⟨_, _, _, _, _, _, _, rfl⟩, kG, bX⟩
    · obtain ⟨⟨x4, x5, x6, x7, x8, x9, x10, rfl⟩, kG, bX⟩ := pw
      have eE : (([bs, cs].take 2).map endsOf).flatten = endsOf bs ++ endsOf cs := by
        show endsOf bs ++ (endsOf cs ++ []) = _
        rw [List.append_nil]
      have kG2 : X G = some (.lst ((endsOf bs ++ endsOf cs).map V.int)) := eE ▸ kG
      have kZ := bX _ _ kZ5 nZG
      have sX := sH _ bX
      have l60 : (endsOf bs ++ endsOf cs).length < 64 := by
        rw [List.length_append, endsOf_len, endsOf_len]
        omega
      refine ⟨_, rfl, G, _, rfl, SqL.of kG2, l60, fun S c nS cl => ⟨S, _, c, rfl, upd_same, Nat.lt_of_le_of_lt cl l60, fun ns O asc mem nl nO => ?_⟩⟩
      have sS : Same X (upd X S (L2.SetO w S (fun j => decide (j ∈ endsOf bs ++ endsOf cs)) c)) := same_upd nS
      have sO : Same (upd X S (L2.SetO w S (fun j => decide (j ∈ endsOf bs ++ endsOf cs)) c)) (upd (upd X S (L2.SetO w S (fun j => decide (j ∈ endsOf bs ++ endsOf cs)) c)) O (.lst (ns.map V.int))) := same_upd nO
      have hB8 := hB.same ((sX.trans sS).trans sO)
      have hC8 := hC.same ((sX.trans sS).trans sO)
      have s8 := (sX.trans sS).trans sO
      have kZ8 := (sS.trans sO) _ _ kZ
      have kO8 := upd_same (H := upd X S (L2.SetO w S (fun j => decide (j ∈ endsOf bs ++ endsOf cs)) c)) (a := O) (o := .lst (ns.map V.int))
      have memb : ∀ z, z ∈ ns → z ∈ endsOf bs ∨ z ∈ endsOf cs := fun z hz => List.mem_append.mp (of_decide_eq_true ((mem z).mp hz))
      have memb2 : ∀ z, z ∈ endsOf bs → z ∈ ns := fun z hz => (mem z).mpr (decide_eq_true (List.mem_append_left _ hz))
      have memc2 : ∀ z, z ∈ endsOf cs → z ∈ ns := fun z hz => (mem z).mpr (decide_eq_true (List.mem_append_right _ hz))
      clear mem sS sO
      have kO9 := kO8
      obtain ⟨H8, e8⟩ : ∃ H8, H8 = upd (upd X S (L2.SetO w S (fun j => decide (j ∈ endsOf bs ++ endsOf cs)) c)) O (.lst (ns.map V.int)) := ⟨_, rfl⟩
      have s88 : Same H8 (upd (upd X S (L2.SetO w S (fun j => decide (j ∈ endsOf bs ++ endsOf cs)) c)) O (.lst (ns.map V.int))) := by
        rw [← e8]
        exact fun _ _ e => e
      rw [← e8] at hB8 hC8 s8 kZ8 kO8
      clear e8
      refine ⟨O, rfl, ⟨_, SqL.of kO9⟩, for_it (walk_list (K := K) (a := O) (xs := ns.map V.int)) (fun i σ X => (∃ (x4 x5 x6 x7 x9 x10 : Option V) (e : Int) (st : Nat), σ = [some (.ref p), some (.ref q), some (.ref Z), some (.ref G), x4, x5, x6, x7, some (.int e), x9, x10] ∧ e = (st : Int) ∧ (∀ m, m < st → (wr bs)[m]? = (wr cs)[m]?) ∧ st ≤ (wr bs).length ∧ st ≤ (wr cs).length ∧ (∀ j z, ns[j]? = some z → j < i → z ≤ (st : Int)) ∧ (∀ j z, ns[j]? = some z → i ≤ j → (st : Int) < z)) ∧ Same H8 X) ⟨⟨_, _, _, _, _, _, 0, 0, rfl, rfl, fun m hm => absurd hm (Nat.not_lt_zero _), Nat.zero_le _, Nat.zero_le _, fun j z _ h => absurd h (Nat.not_lt_zero _), fun j z hz _ => ?_⟩, s88⟩ (fun i σ X _ pw => SqL.of (pw.2 _ _ kO8)) (fun i x σ X X' hi pw yl => ?_) (fun σ X pw => ?_)⟩
      · rcases memb z (List.mem_of_getElem? hz) with h | h
        · have := ends_pos vb h
          omega
        · have := ends_pos vc h
          omega
      · obtain ⟨⟨x4, x5, x6, x7, x9, x10, e, st, rfl, ee, alike, sb, sc, pre, post⟩, pS⟩ := pw
        obtain ⟨rfl, hx⟩ := yl
        rw [List.getElem?_map] at hx
        obtain ⟨ed, hed, rfl⟩ := Option.map_eq_some_iff.mp hx
        have lt := post i ed hed (Nat.le_refl _)
        obtain ⟨en, een⟩ : ∃ en : Nat, ed = (en : Int) := ⟨ed.toNat, by omega⟩
        have nxB : ∀ z ∈ endsOf bs, (st : Int) < z → (en : Int) ≤ z := fun z hz hlt => by
          obtain ⟨j, hj⟩ := List.getElem?_of_mem (memb2 z hz)
          rcases Nat.lt_trichotomy i j with cj | cj | cj
          · have := asc_lt asc hed hj cj
            omega
          · rw [← cj, hed] at hj
            have := Option.some.inj hj
            omega
          · have := pre j z hj cj
            omega
        have nxC : ∀ z ∈ endsOf cs, (st : Int) < z → (en : Int) ≤ z := fun z hz hlt => by
          obtain ⟨j, hj⟩ := List.getElem?_of_mem (memc2 z hz)
          rcases Nat.lt_trichotomy i j with cj | cj | cj
          · have := asc_lt asc hed hj cj
            omega
          · rw [← cj, hed] at hj
            have := Option.some.inj hj
            omega
          · have := pre j z hj cj
            omega
        have emx : en ≤ (wr bs).length ∨ en ≤ (wr cs).length := by
          rcases memb ed (List.mem_of_getElem? hed) with h | h
          · exact .inl (by have := ends_le h; omega)
          · exact .inr (by have := ends_le h; omega)
        refine ⟨_, rfl, _, _, rfl, rfl, _, rfl, _, rfl, _, _, rfl, rfl, _, _, rfl, _, _, rfl, rfl, _, _, rfl, ?_⟩
        generalize hhi : (if e + 12 < ed then e + 12 else ed) + 1 = hi2
        have ehi : hi2 = ((min en (st + 12) : Nat) : Int) + 1 := by
          rw [← hhi]
          split <;> omega
        refine for_range (lo := e + 1) (n := (hi2 - (e + 1)).toNat) (fun j σ X => (∃ (x10 : Option V), σ = [some (.ref p), some (.ref q), some (.ref Z), some (.ref G), x4, x5, x6, x7, some (.int e), some (.int ed), x10]) ∧ (∀ m, m < st + j → (wr bs)[m]? = (wr cs)[m]?) ∧ st + j ≤ (wr bs).length ∧ st + j ≤ (wr cs).length ∧ Same H8 X) ⟨⟨_, rfl⟩, alike, sb, sc, pS⟩ (fun j σ X hj pw => ?_) (fun σ X pw => ?_)
        · obtain ⟨⟨x10, rfl⟩, al, sb2, sc2, pS⟩ := pw
          have jl : st + j < min en (st + 12) := by omega
          refine ⟨_, rfl, _, rfl, Z, [((wr bs).length : Int), ((wr cs).length : Int)], rfl, SqL.of (pS _ _ kZ8), (by show 0 < 2; decide), fun m hm hle => ⟨_, _, rfl, rfl, _, rfl, ?_⟩⟩
          have m1 := hle _ (List.mem_cons_self ..)
          have m2 := hle _ (List.mem_cons_of_mem _ (List.mem_cons_self ..))
          have m3 : m = ((wr bs).length : Int) ∨ m = ((wr cs).length : Int) := by
            rcases List.mem_cons.mp hm with h | h
            · exact .inl h
            · exact .inr (List.mem_singleton.mp h)
          have en1 : e + 1 + (j : Int) = ((st + j : Nat) : Int) + 1 := by omega
          have en2 : e + 1 + (j : Int) = ((st + j + 1 : Nat) : Int) := by omega
          by_cases big : m < e + 1 + (j : Int)
          · rw [decide_eq_true big]
            refine iteT (iteT ⟨_, rfl, ?_⟩)
            have z := k (some (st + j)) X ⟨fun y => ?_, al⟩ (s8.trans pS)
            · rw [en2]
              exact z
            · by_cases cb : st + j < (wr bs).length
              · rw [List.getElem?_eq_getElem cb, List.getElem?_eq_none (by omega)] at y
                cases y
              · by_cases cc : st + j < (wr cs).length
                · rw [List.getElem?_eq_getElem cc, List.getElem?_eq_none (by omega)] at y
                  cases y
                · omega
          · rw [decide_eq_false big]
            refine iteF ⟨_, rfl, _, rfl, p, bs, _, st + j, rfl, en1, hB8.same pS, vb, fun X1 t1 => ⟨_, rfl, _, rfl, q, cs, _, st + j, rfl, en1, (hC8.same pS).same t1, vc, fun X2 t2 => ⟨?_, _, rfl, ?_⟩⟩⟩
            · cases (wr bs)[st + j]? <;> cases (wr cs)[st + j]? <;> rfl
            · by_cases eq : (wr bs)[st + j]? = (wr cs)[st + j]?
              · rw [eq, decide_eq_true rfl]
                refine iteF ⟨⟨_, rfl⟩, fun m hm => ?_, by omega, by omega, (pS.trans t1).trans t2⟩
                by_cases c0 : m < st + j
                · exact al m c0
                · rw [show m = st + j by omega]
                  exact eq
              · have ne : optS ((wr bs)[st + j]?) ≠ optS ((wr cs)[st + j]?) := fun z => eq (by
                  cases h1 : (wr bs)[st + j]? <;> cases h2 : (wr cs)[st + j]? <;> rw [h1, h2] at z <;> first | rfl | (injection z with z; rw [z]) | cases z)
                rw [decide_eq_false ne]
                refine iteT ⟨_, rfl, ?_⟩
                have z := k (some (st + j)) X2 ⟨eq, al⟩ (((s8.trans pS).trans t1).trans t2)
                rw [en2]
                exact z
        · obtain ⟨⟨x10, rfl⟩, al, sb2, sc2, pS⟩ := pw
          have en3 : st + (hi2 - (e + 1)).toNat = min en (st + 12) := by omega
          rw [en3] at al sb2 sc2
          have all : (∀ m, m < en → (wr bs)[m]? = (wr cs)[m]?) ∧ en ≤ (wr bs).length ∧ en ≤ (wr cs).length := by
            by_cases near : en ≤ st + 12
            · rw [Nat.min_eq_left near] at al sb2 sc2
              exact ⟨al, sb2, sc2⟩
            · rw [Nat.min_eq_right (by omega)] at al sb2 sc2
              exact ⟨seg_alike vb vc nxB nxC (by omega) (by omega) (by omega) al, seg_in nxB (by omega), seg_in nxC (by omega)⟩
          refine ⟨_, rfl, ⟨_, _, _, _, _, _, _, en, rfl, een, all.1, all.2.1, all.2.2, fun j z hj hl => ?_, fun j z hj hl => ?_⟩, pS⟩
          · rcases Nat.lt_or_ge j i with cj | cj
            · have := asc_lt asc hj hed cj
              omega
            · have : j = i := by omega
              subst this
              rw [hed] at hj
              have := Option.some.inj hj
              omega
          · have := asc_lt asc hed hj (by omega)
            omega
      · obtain ⟨⟨x4, x5, x6, x7, x9, x10, e, st, rfl, ee, alike, sb, sc, pre, post⟩, pS⟩ := pw
        have fin : ∀ z, z ∈ ns → z ≤ (st : Int) := fun z hz => by
          obtain ⟨j, hj⟩ := List.getElem?_of_mem hz
          exact pre j z hj (by rw [List.length_map]; exact (List.getElem?_eq_some_iff.mp hj).1)
        have fb : (wr bs).length ≤ st := by
          by_cases n0 : bs = []
          · rw [n0]
            exact Nat.zero_le _
          · have := fin _ (memb2 _ (ends_all n0))
            omega
        have fc : (wr cs).length ≤ st := by
          by_cases n0 : cs = []
          · rw [n0]
            exact Nat.zero_le _
          · have := fin _ (memc2 _ (ends_all n0))
            omega
        refine k none X ?_ (s8.trans pS)
        refine List.ext_getElem? fun m => ?_
        by_cases cm : m < st
        · exact alike m cm
        · rw [List.getElem?_eq_none (by omega), List.getElem?_eq_none (by omega)]
end
end LA
end
section
set_option Elab.async false
set_option linter.all false
set_option maxRecDepth 100000
set_option maxHeartbeats 4100000
namespace XT
open PySem PySem.Spec PyProof.Rows L2 XS
/-! ### sum(lists, list) where there may be no list -/
section
variable {prog : Program} {w : World} {A : Around} {R : Result → Shared → Prop} {I S : Addr} {fp wr : List Addr} {P : Nat → Value → Prop} {St : Nat → Heap → Prop}
theorem sum_none (W : Walks prog w A.in1 I fp wr 0 P St) (nS : S ∉ fp) {s : Shared} {t : Addr} {c : Nat} (st : St 0 s.heap) (hS : s.heap.get? S = some (lsO [.ref t] c))
    (q : ∀ h' tk, (∀ x o, x ∉ wr → s.heap.get? x = some o → h'.get? x = some o) → R (.ok (.ret (.ref t))) { s with heap := h', toks := tk }) :
    codeAny (model prog w) A (.builtin "sum.loop" ⟨[.ref I, .ref S, rawInt 2, rawInt 0], []⟩) R s := by
  refine codeAny_builtin
        F.entry_sum_loop ?_
  rw [Around.under_plainId
        F.plain_sum_loop _]
  show wpAny _ _ (seqItems? (.ref S) >>= _) _ _ s
  refine wpAny_bind
        (wpAny_seqItems hS rfl ?_)
  show wpAny _ _ (tryCatch (pyNext (.ref I)) _ >>= _) _ _ s
  refine wpAny_bind (wpAny_tryCatch (W.done s _ _ st fun h' tk keep => ?_))
  exact wpAny_pure (q h' tk fun x o h1 h2 => keep x o h1 h2)
end
section
variable {prog : Program} {w : World} {A : Around} {E : Value → Shared → Prop} {s : Shared} {l b : Addr} {Q : Value → Shared → Prop} {cur : List Value} {cb : Nat}
theorem sum_nil (hh : A.handled = none) (hl : s.heap.IsList l #[]) (hb : s.heap.get? b = some (lsO cur cb))
    (h : ∀ h' tk, (∀ x o, s.heap.get? x = some o → h'.get? x = some o) → Q (.ref b) { s with heap := h', toks := tk }) :
    wpAny (model prog w) A (call (.builtin "sum") [.ref l, .ref b] []) Q E s := by
  have okA : argsOk "sum" ⟨[.ref l, .ref b], []⟩ := by unfold argsOk; kernel_rfl
  have ll := Heap.lt_size hl.choose_spec.1
  have lb := Heap.lt_size hb
  refine call_goes F.kind_sum F.plain_sum F.entry_sum okA ?_
  unfold Builtin.«sum»
  simp only [List.length_cons,
        List.length_nil]
  rw [if_neg (by decide)]
  refine wpAny_bind (wpAny_of_eq (show Builtin.Builtins.bindParams "sum" ["start"] 0 { pos := [Value.ref b] } = pure [some (.ref b)] from rfl) ?_)
  refine wpAny_bind
        (wpAny_pyIter_list hl ?_)
  refine wpAny_bind
        (wpAny_pure ?_)
  have hb2 : (s.heap.push { cls := .type "list_iterator", data := .fields #[.ref l, .int 0 0] }).get? b = some (lsO cur cb) := Heap.get?_push_of_some _ hb
  have ty : Shared.TypeIs { s with heap := s.heap.push { cls := .type "list_iterator", data := .fields #[.ref l, .int 0 0] } } (.ref b) "list" := ⟨_, hb2, rfl⟩
  simp only [List.forIn_cons,
        List.forIn_nil]
  refine wpAny_bind (wpAny_bind (wpAny_bind (wpAny_isInstance (T := "list") (b := false) ty PySem.F.sub_list_str ?_)))
  simp only [Bool.false_eq_true,
        if_false]
  refine wpAny_pure (wpAny_bind (wpAny_bind (wpAny_isInstance (T := "list") (b := false) ty PySem.F.sub_list_bytes ?_)))
  simp only [Bool.false_eq_true,
        if_false]
  refine wpAny_pure (wpAny_bind (wpAny_bind (wpAny_isInstance (T := "list") (b := false) ty PySem.F.sub_list_bytearray ?_)))
  simp only [Bool.false_eq_true,
        if_false]
  refine wpAny_pure
        (wpAny_pure ?_)
  refine wpAny_bind
        (wpAny_newObj_type ?_)
  have eS : (s.heap.push { cls := .type "list_iterator", data := .fields #[.ref l, .int 0 0] }).objs.size = s.heap.objs.size + 1 := Heap.size_push _ _
  have old : ∀ x o, s.heap.get? x = some o → ((s.heap.push { cls := .type "list_iterator", data := .fields #[.ref l, .int 0 0] }).push { cls := .type "list", data := .seq #[.ref b] }).get? x = some o := fun x o e => Heap.get?_push_of_some _ (Heap.get?_push_of_some _ e)
  have W := Walks.list (prog := prog) (w := w) (A := A.in1) (by exact hh) s.heap.objs.size l (Nat.ne_of_lt ll) #[]
  rw [eS]
  refine wpAny_pure ⟨_, rfl, plainId_quiet F.plain_sum_loop _, ?_⟩
  refine sum_none W (S := s.heap.objs.size + 1) (fun z => ?_) (s := { s with heap := (s.heap.push { cls := .type "list_iterator", data := .fields #[.ref l, .int 0 0] }).push { cls := .type "list", data := .seq #[.ref b] } }) (c := 0) ⟨?_, hl.at fun o e => old _ _ e⟩ ?_ fun h' tk keep => ⟨_, rfl, h h' tk fun x o e => keep x o (fun y => Nat.ne_of_lt (Heap.lt_size e) (List.mem_singleton.mp y)) (old x o e)⟩
  · rcases List.mem_cons.mp z with e | e
    · exact Nat.succ_ne_self _ e
    · have e2 := List.mem_singleton.mp e
      rw [← e2] at ll
      exact Nat.lt_irrefl _ (Nat.lt_of_succ_lt ll)
  · exact ⟨_, Heap.get?_push_of_some _ (Heap.get?_push_size _ rfl), rfl, rfl⟩
  · rw [← eS]
    exact
          Heap.get?_push_size _ rfl
end
section
variable {X : Cx}
/-- sum(lists, list): no list, or some, each on its own -/
def rSumLE : List V → Hp → VK → Prop := fun vs H Q => (∃ (a b : Addr) (zs : List V), vs = [V.ref a, V.ref b] ∧ H a = some (.lst []) ∧ H b = some (.lst zs) ∧ Q (.ref b) H) ∨ rSumL vs H Q
theorem cr_sumLE (hc : X.calm = true) : CallR X (.builtin "sum") rSumLE := by
  intro pins s σ
        H vs us Q I r h
  rcases h with ⟨a, b, zs, rfl, ha, hb, q⟩ | h
  · obtain ⟨u, us2, rfl, ru, r2⟩ : ∃ u us2, us = u :: us2 ∧ RelV (V.ref a) u ∧ Vals [V.ref b] us2 := by
      cases r with
      | cons x y => exact
            ⟨_, _, rfl, x, y⟩
    rw [Vals.ref1 r2]
    obtain rfl : u =
          Value.ref a := ru
    obtain ⟨_, ia, na, va, la, ea⟩ := I.lstM ha
    obtain ⟨_, ib, nb, vb, lb, eb⟩ := I.lstM hb
    have e0 : ia = [] := List.eq_nil_of_length_eq_zero (by rw [← la]; rfl)
    subst e0
    refine sum_nil (cur := ib) (cb := nb) (I.ok.hd hc) ⟨_, ea, rfl, _, rfl⟩ eb fun h' tk k => ?_
    exact ⟨.ref b, H, I.kept (t' := tk) k, rfl, q⟩
  · exact cr_sumL hc pins s σ H vs us Q I r h
end
end XT
end
section
set_option Elab.async false
set_option linter.all false
set_option maxRecDepth 100000
set_option maxHeartbeats 4100000
namespace XK
open PySem PySem.Spec PyProof.Rows L2
/-! ### a def that is called where no repr is under way -/
section
variable {P : Program} {w : World} {K : PySem.W.Frag} {mg : Str → Option Value} {base : Heap} {CX : CXT} {k : Nat} {f : Addr} {fd : FuncData} {N ps : List Str} {sp : Sp}
structure AtG (P : Program) (w : World) (K : PySem.W.Frag) (mg : Str → Option Value) (base : Heap) (CX : CXT) (k : Nat) (f : Addr) (fd : FuncData) (ps : List Str) (sp : Sp) : Prop where
  len : ∀ vs H Q E, sp vs H Q E → vs.length = ps.length
  go : ∀ (A : Around) (outer : List Env) (s : Shared) (H : Hp) (args : Args) (us : List Value) (vs : List V) (Q : VK) (E : XK), A.guards = some [] → Room k A → Env0 P w K mg base A outer s H → BindsTo s fd args (ps.zip us) → Vals vs us → sp vs H Q E →
    codeAny (model P w) A (.call (.ref f) args) (CR CX outer P w H s Q E) s
theorem atG {x qual : Str} {st : Stmt} (F : Fun K x qual st f fd) (S : FnScope N ps (defScope st)) (len : ∀ vs H Q E, sp vs H Q E → vs.length = ps.length)
    (body : ∀ (cdv : Value) (A : Around) (outer : List Env) (s : Shared) (H : Hp) (vs : List V) (Q : VK) (E : XK), A.guards = some [] → Room k (A.deeper (envOfC qual (defScope st) s.heap.objs.size f cdv)) → sp vs H Q E →
      ∃ t, PSs (cxOf CX P w K mg base N qual (defScope st) f cdv A outer s H E).nox (defBody st) t ∧ t { nx := fun _ H' => Q .non H', rt := Q } (start N vs) H) :
    AtG P w K mg base CX (k + 1) f fd ps sp := by
  obtain ⟨oc, od, kV, doc, pm, an, cdv, ct, osl, rfl, lk, hcd⟩ := F.ex
  refine ⟨len, fun A outer s H args us vs Q E quiet room env bind rel want => ?_⟩
  have count := len _ _ _ _ want
  have inn : K.In s.heap := env.mod.kin.keeps fun b o e => (env.bs b o e).1
  have lim : s.heap.NoLimit := env.mod.nolimit.keeps fun b o e => (env.bs b o e).1
  have kinds : ∀ y ∈ ps.zip us, (defScope st).names.lookup y.1 = some .local ∨ ((defScope st).names.lookup y.1 = some .cell ∧ ((cellsFrom (s.heap.objs.size + 1) (defScope st).names []).lookup y.1).isSome = true) := by
    intro y hy
    rcases S.par y.1 (List.of_mem_zip hy).1 with q | q
    · exact .inl q
    · exact .inr ⟨q, PySem.W.cellsFrom_some _ _ _ (.inl q)⟩
  refine codeAny_call_function room.depth (inn _ _ lk) rfl S.co S.gen rfl (PySem.W.codeRec_of inn hcd) (bind _ _ _ _ ?_)
  refine wpAny_newFunctionEnv_cells S.kind kinds fun en hen s1 entered => ?_
  subst hen
  refine ⟨lim.keeps entered.toInCall.keep, codeAny_func ?_⟩
  obtain ⟨t, der, rd⟩ := body cdv A outer s H vs Q E quiet (room.deeper _) want
  have I0 : Inv (cxOf CX P w K mg base N qual (defScope st) f cdv A outer s H E) [] (start N vs) H s1 := inv_start S room.hd env count rel entered
  refine wpAny_mono (der.nox.run [] s1 (start N vs) H _ I0 rd) (fun flow s' res => ?_) fun _ _ res => res
  cases flow with
  | ret u =>
    obtain ⟨v, σ', H', J, rv, q⟩ := res
    exact ⟨v, H', J.os, J.bare, J.base, J.hok, rv, q⟩
  | next =>
    obtain ⟨σ', H', J, q⟩ := res
    exact ⟨V.non, H', J.os, J.bare, J.base, J.hok, rfl, q⟩
  | brk =>
    obtain ⟨_, _, _, no⟩ := res
    exact no.elim
  | cont =>
    obtain ⟨_, _, _, no⟩ := res
    exact no.elim
variable {X : Cx} {x : Str} {e : Expr} {es : List Expr} {t : TA} {p pos : Pos}
/-- such a def, called -/
theorem pe_callG (F : AtG X.prog X.w X.K X.mg X.base CX k f fd ps sp) (quiet : X.A.guards = some []) (hr : Room k X.A) (hg : Gl X x) (hm : X.mg x = some (.ref f)) (hk : PySem.W.keepIn X.K (.ref f) = true) (hb : Binds X.K fd ps []) {E : XK} (hx : Passes CX X E)
    (ha : PA X (e :: es) t) (hdb : (x == ("__debug__" : Str)) = false := by decide) (he : starEach (e :: es) X.env = (false, eval e X.env) :: starEach es X.env := by rfl) (hpl : (backTo pos (starEach es X.env)).any (·.1) = false := by rfl) :
    PE X (.Call (.Name x p) (e :: es) [] pos) (fun σ H Q => t σ H fun vs H1 => sp vs H1 Q E) := by
  refine ⟨fun pins s σ H Q I h => ?_⟩
  refine wpAny_Call_Name_kw (ld_glob I hg hm ?_ hdb)
  refine PySem.W.callWith_K (h₀ := X.base) I.ok.mod.kin hk (thn (ha.run pos pins s σ H _ I h) fun us s1 ⟨vs, H1, I1, r, q⟩ => ⟨I1.kIn, ?_⟩) he hpl
  have hl := F.len _ _ _ _ q
  refine wpAny_call (codeAny_mono (F.go X.A X.stack s1 H1 ⟨us, []⟩ us vs _ E quiet hr I1.env0 (by
    have := hb s1 us I1.kIn (by rw [List.append_nil, ← r.length]; exact hl)
    simpa using this) r q) fun res s' hq => ?_)
  cases res with
  | error e => exact hx pins σ H1 s1 e s' I1 hq
  | ok fl =>
    cases fl with
    | ret u => exact I1.after hq
    | next => exact False.elim hq
    | brk => exact False.elim hq
    | cont => exact False.elim hq
end
end XK
end
section
set_option Elab.async false
set_option linter.all false
set_option maxRecDepth 100000
set_option maxHeartbeats 4100000
namespace XT
open PySem PySem.Spec PyProof.Rows L2
section
variable {X : Cx}
/-- repr of a truth -/
def rReprB : List V → Hp → VK → Prop := fun xs H Q => ∃ b : Bool, xs = [.bl b] ∧ Q (.str (if b then "True" else "False")) H
theorem call_reprB : CallR X (.builtin "repr") rReprB := by
  intro pins s σ
        H xs us Q I r h
  obtain ⟨b, rfl, q⟩ := h
  obtain ⟨u, rfl, e⟩ := vals1 r
  cases e
  exact PySem.P.repr_of_bool ⟨.str _, H, I.tok _, ⟨_, rfl⟩, q⟩
end
section
variable {X : Cx} {CX : CXT} {k : Nat} {f C : Addr} {fd : FuncData} {ps ks : List Str} {sp : Sp} {E : XK} {m : Str} {apos pos : Pos} {o : Expr} {kws : List Keyword} {ta : TE} {tk : TA} {g : List Value → List Value → List Value} {gV : List V → List V → List V} {pl : Sem Bool}
/-- a method by keywords alone: what it asks -/
def tMethKw (C : Addr) (m : Str) (sp : Sp) (gV : List V → List V → List V) (E : XK) (ta : TE) (tk : TA) : TE := fun σ H Q => ta σ H fun x H1 => ∃ a dx fs, x = .ref a ∧ H1 a = some (.ins C dx fs) ∧ fs.lookup m = none ∧ tk σ H1 fun zs H2 => sp (gV [x] zs) H2 Q E
theorem pe_methKw (he : PE X o ta) (c : Cls X.K C) (hm : Meth X.K C m f) (F : FnOk X.prog X.w X.K X.mg X.base CX k f fd ps sp) (hr : Room k X.A) (hb : KBinds X.K fd ps ks g gV) (hx : Passes CX X E) (hkw : PK X kws tk)
    (hall : (backToKw pos (keywordEach kws X.env)).all (·.1.isSome) = true := by rfl) (hks : (backToKw pos (keywordEach kws X.env)).filterMap (·.1) = ks := by rfl)
    (hpl : ((backTo pos (starEach [] X.env)).any (·.1) || (backToKw pos (keywordEach kws X.env)).any (·.1.isNone)) = false := by rfl)
    (ht : eval (.Call (.Attribute o m apos) [] kws pos) X.env = (do
      let ov ← eval o X.env
      standAt apos.atName
      let (f, first) ← holding [ov] (getMethod ov m pl)
      callWith pos f first (backTo pos (starEach [] X.env)) (backToKw pos (keywordEach kws X.env))) := by rfl) :
    PE X (.Call (.Attribute o m apos) [] kws pos) (tMethKw C m sp gV E ta tk) := by
  refine ⟨fun pins s σ H Q I h => ?_⟩
  refine PySem.W.methodCall_KW (pl := pl) (thn (he.run pins s σ H _ I h) fun u s1 ⟨x, H1, I1, rx, a, dx, fs, ex, ea, l, q⟩ => ?_) ht
  subst ex
  obtain rfl : u = Value.ref a := rx
  refine getmeth_ok I1 ea c hm l ?_
  refine PySem.W.callWith_KW0 (first := [.ref a]) (h₀ := X.base) I.ok.mod.kin hm.kp hall (thn (hkw.run pos pins s1 σ H1 _ I1 q) fun ws s2 ⟨zs, H2, I2, rz, q2⟩ => ⟨I2.kIn, ?_⟩) hpl
  rw [hks]
  exact run_fnk (us := [.ref a]) (vs := [.ref a]) F hr hb hx I2 (.cons rfl .nil) rz q2
end
end XT
end
section
set_option Elab.async false
set_option linter.all false
set_option maxRecDepth 100000
set_option maxHeartbeats 8100000
namespace LA
open PySem L2 XS XT LM XV XO XK
theorem Same.eqv' {a b : Bool} (h : a = b) : V.bl a = V.bl b := congrArg V.bl h
/-- x and y of a call by position and by keyword -/
def g2 : List Value → List Value → List Value
  | [a], [b] => [a, b]
  | _, _ => []
def g2V : List V → List V → List V
  | [a], [b] => [a, b]
  | _, _ => []
theorem g2_rel {vs zs : List V} {us ws : List Value} (r : Vals vs us) (q : Vals zs ws) : Vals (g2V vs zs) (g2 us ws) := by
  cases r with
  | nil => exact .nil
  | cons r1 r =>
    cases r with
    | cons _ _ => cases q <;> exact .nil
    | nil =>
      cases q with
      | nil => exact .nil
      | cons q1 q =>
        cases q with
        | nil => exact .cons r1 (.cons q1 .nil)
        | cons _ _ => exact .nil
theorem g2_len {us ws : List Value} (h : (g2 us ws).length = 2) : ∃ a b, us = [a] ∧ ws = [b] := by
  match us, ws, h with
  | [a], [b], _ => exact ⟨a, b, rfl, rfl⟩
  | [], _, h => exact absurd h (by show ¬ (0 = 2); decide)
  | [_], [], h => exact absurd h (by show ¬ (0 = 2); decide)
  | [_], _ :: _ :: _, h => exact absurd h (by show ¬ (0 = 2); decide)
  | _ :: _ :: _, _, h => exact absurd h (by show ¬ (0 = 2); decide)
section
variable {P : Program} {w : World} {K : PySem.W.Frag} {mg : Str → Option Value} {base : Heap} {C : Addr}
/-- what is known of the class -/
structure LgF (P : Program) (w : World) (K : PySem.W.Frag) (mg : Str → Option Value) (base : Heap) (C fE fD fN pN fB pB : Addr) (fdE fdD fdN fdB : FuncData) : Prop where
  k : KLg K C
  eq : FnOk P w K mg base CX0 3 fE fdE ["self", "other"] (spLEq K C)
  eqAt : PySem.W.findIn K (.ref C) "__eq__" = some (some (.ref fE))
  eqF : PySem.W.isFn K (.ref fE) = true
  eqB : Binds K fdE ["self", "other"] []
  ne : PySem.W.findIn K (.ref C) "__ne__" = some (some (.builtin "object.__ne__"))
  n0 : PySem.W.notFirst K C (.ref C) = true
  nT : PySem.W.notFirst K C (.type "tuple") = true
  nS : PySem.W.notFirst K C (.type "str") = true
  nI : PySem.W.notFirst K C (.type "int") = true
  kT : PySem.W.kitOne K (.type "tuple") (.ref C) = some false
  kS : PySem.W.kitOne K (.type "str") (.ref C) = some false
  kI : PySem.W.kitOne K (.type "int") (.ref C) = some false
  df : FnOk P w K mg base CX0 3 fD fdD ["self", "other"] (spDiff C)
  dfM : Meth K C "difference" fD
  dfB : Binds K fdD ["self", "other"] []
  dfK : KBinds K fdD ["self", "other"] ["other"] g2 g2V
  ln : FnOk P w K mg base CX0 2 fN fdN ["self"] (spLLen C)
  lnP : PropOf K C "length" pN fN
  lnB : Binds K fdN ["self"] []
  bk : FnOk P w K mg base CX0 1 fB fdB ["self"] (spBlks C)
  bkP : PropOf K C "blocks" pB fB
  bkB : Binds K fdB ["self"] []
theorem eq_read {H : Hp} {Q : VK} {E : XK} {bs cs : List (Bk Str)} {v y : V} (T : KLg K C) (n0 : PySem.W.notFirst K C (.ref C) = true) (lt : LT C H bs v) (lc : LT C H cs y) (rb : Rb bs) (rc : Rb cs) (q : ∀ r H', IsU (wr bs) (wr cs) r → Same H H' → Q (.bl r.isNone) H') : rOwnE K C (spLEq K C) E false v y H Q := by
  obtain ⟨a, dx, t, us, rfl, ha, _⟩ := id lt
  refine ⟨a, dx, _, _, rfl, ha, lc.ty T, n0, bs, _, y, rfl, lt, .inr ⟨cs, lc, rb, rc, fun r H' iu s => ⟨_, rfl, ?_⟩⟩⟩
  have z := q r H' iu s
  cases r <;> exact z
theorem ne_read {H : Hp} {Q : VK} {E : XK} {bs cs : List (Bk Str)} {v y : V} (T : KLg K C) (n0 : PySem.W.notFirst K C (.ref C) = true) (lt : LT C H bs v) (lc : LT C H cs y) (rb : Rb bs) (rc : Rb cs) (q : ∀ r H', IsU (wr bs) (wr cs) r → Same H H' → Q (.bl r.isSome) H') : rOwnE K C (spLEq K C) E true v y H Q := by
  obtain ⟨a, dx, t, us, rfl, ha, _⟩ := id lt
  refine ⟨a, dx, _, _, rfl, ha, lc.ty T, n0, bs, _, y, rfl, lt, .inr ⟨cs, lc, rb, rc, fun r H' iu s => ⟨_, rfl, ?_⟩⟩⟩
  have z := q r H' iu s
  cases r <;> exact z
/-- with a value of another kind -/
theorem eq_other {H : Hp} {Q : VK} {E : XK} {bs : List (Bk Str)} {v y : V} {t : Value} (lt : LT C H bs v) (ty : TyX K H y t) (nf : PySem.W.notFirst K C t = true) (no : PySem.W.kitOne K t (.ref C) = some false) (q : Q (.bl false) H) : rOwnE K C (spLEq K C) E false v y H Q := by
  obtain ⟨a, dx, t2, us, rfl, ha, _⟩ := id lt
  exact ⟨a, dx, _, t, rfl, ha, ty, nf, bs, _, y, rfl, lt, .inl ⟨t, ty, no, false, rfl, q⟩⟩
theorem LT.but {H H' : Hp} {d c : Addr} {n : Int} {ns : List Int} (p : PenAt H d c n ns) (k : But d H H') {bs : List (Bk Str)} {v : V} (h : LT C H bs v) : LT C H' bs v := by
  obtain ⟨a, dx, t, us, e, h1, h2, h3⟩ := h
  have nI : ∀ D dx fs, H d ≠ some (.ins D dx fs) := fun D dx fs e => by
    obtain ⟨_, _, _, q⟩ := p
    rw [q.dc] at e
    cases e
  exact ⟨a, dx, t, us, e, k _ _ h1 (fun z => nI _ _ _ (z ▸ h1)), k _ _ h2 (fun z => p.nT _ (z ▸ h2)), L2.Paired.mapP h3 fun _ _ z => z.but p.nT k⟩
theorem LBs.pen {H H' : Hp} {d c : Addr} {n : Int} {ns : List Int} (p : PenAt H d c n ns) (k : But d H H') {a : Addr} {bs : List (Bk Str)} (h : LBs H a bs) : LBs H' a bs := h.but p.nT p.nL k
/-- the word of a number or of None -/
def unD : Option Nat → PyData
  | none => .none
  | some n => .int (n : Int)
theorem dp_un {H : Hp} (r : Option Nat) : Dp K H (unV r) (unD r) := by
  cases r with
  | none => exact .non
  | some n => exact .int _
theorem un_len (r : Option Nat) (h : ∀ n, r = some n → n < 2 ^ 200) : (unD r).showable = true ∧ (unD r).shown.length ≤ 1921 := by
  cases r with
  | none => exact ⟨rfl, by decide +kernel⟩
  | some n =>
    have hl : ((n : Int)).natAbs.log2 < 1920 := Nat.lt_trans (PySem.Flt.log2_lt_of (n := n) (k := 200) (by decide) (h n rfl)) (by decide)
    refine ⟨decide_eq_true hl, ?_⟩
    show (PyData.shown (.int (n : Int))).length ≤ 1921
    rw [PyData.shown_int]
    exact PyProof.Rows.int_text_len_1921 hl
theorem shows_un (r : Option Nat) (h : ∀ n, r = some n → n < 2 ^ 200) : Shows (unD r) := by
  obtain ⟨h1, h2⟩ := un_len r h
  refine ⟨h1, Nat.le_trans h2 (by decide), ?_⟩
  cases r <;> exact Nat.zero_le _
theorem shows_two (r : Option Nat) (h : ∀ n, r = some n → n < 2 ^ 200) : Shows (.list [unD r, unD r]) := by
  obtain ⟨h1, h2⟩ := un_len r h
  refine ⟨?_, ?_, ?_⟩
  · show ((unD r).showable && ((unD r).showable && true)) = true
    rw [h1]
    rfl
  · show (listText [(unD r).shown, (unD r).shown]).length ≤ sizeLine
    have z := listText_len_le [(unD r).shown, (unD r).shown]
    refine Nat.le_trans z ?_
    show ((unD r).shown.length + ((unD r).shown.length + 0)) + 2 * 2 + 3 ≤ sizeLine
    exact Nat.le_trans (by omega) (by decide : 4000 ≤ sizeLine)
  · show max (unD r).depth (max (unD r).depth 0) + 1 ≤ 60
    cases r
    · decide
    · show max 0 (max 0 0) + 1 ≤ 60
      decide
end
end LA
end
section
set_option Elab.async false
set_option linter.all false
set_option maxRecDepth 100000
set_option maxHeartbeats 8100000
namespace LA
open PySem L2 XS XT LM XV XO XK
abbrev sCR : Stmt := top 43
abbrev nCR : List Str := ["_law_pen_here", "_law_blocks", "_law_made", "_law_pieces", "_law_twin", "_law_one"]
theorem scCR : FnScope nCR ["_law_pen_here", "_law_blocks", "_law_made"] (defScope sCR) := ⟨rfl, rfl, rfl, by decide +kernel, rfl, by decide +kernel, by decide +kernel⟩
theorem cut_len {css : List (List (Bk Str))} (h : ∀ cs ∈ css, cs.length ≤ 3) : css.flatten.length ≤ 3 * css.length := by
  induction css with
  | nil => exact Nat.zero_le _
  | cons c r ih =>
    rw [List.flatten_cons, List.length_append, List.length_cons]
    have := h c (List.mem_cons_self ..)
    have := ih fun x hx => h x (List.mem_cons_of_mem _ hx)
    omega
section
variable {P : Program} {w : World} {K : PySem.W.Frag} {mg : Str → Option Value} {base : Heap} {C : Addr}
theorem shows_ttf : Shows (.list [.bool true, .bool true, .bool false]) := ⟨rfl, by decide +kernel, by decide +kernel⟩
/-- cut_right -/
def spCR (C : Addr) : Sp := fun vs H Q _ => ∃ (d c : Addr) (n : Int) (ns : List Int) (p : Addr) (v : V) (bs : List (Bk Str)), vs = [.ref d, .ref p, v] ∧ PenAt H d c n ns ∧ n + 200 < 1000000 ∧ LBs H p bs ∧ LT C H bs v ∧ (∀ b ∈ bs, Vb b) ∧ bs.length ≤ 5 ∧
  ∀ H', PenAt H' d c (n + 200) ns → But d H H' → Q (.bl true) H'
/-- the pieces so far: for each block its list -/
structure Pcs2 (D : Addr) (Y : Hp) (css : List (List (Bk Str))) (ps : List (Addr × List V)) : Prop where
  p : Paired (fun cs (p : Addr × List V) => p.1 ≠ D ∧ Y p.1 = some (.lst p.2) ∧ Paired (fun b v => BkL Y b v) cs p.2) css ps
theorem ok_CR {f fE fD fN pN fB pB f1 f2 : Addr} {fd fdE fdD fdN fdB fd1 fd2 : FuncData} (F : Fun K "_law_cut_right" "_law_cut_right" sCR f fd) (G : LgF P w K mg base C fE fD fN pN fB pB fdE fdD fdN fdB) (mS : mg "sum" = none) (mRe : mg "repr" = none)
    (SP : CallOf P w K mg base 3 "_law_lsplit" ["_law_pen_here", "_law_one"] spSpl f1 fd1) (LM : CallOf P w K mg base 8 "_law_lmade" ["_law_blocks"] (spLM C) f2 fd2) : AtG P w K mg base CX0 9 f fd ["_law_pen_here", "_law_blocks", "_law_made"] (spCR C) := by
  refine atG F scCR (fun vs H Q E h => ?_) (fun cdv A outer s H vs Q E quiet0 hr h => ?_)
  · obtain ⟨d, c, n, ns, p, v, bs, rfl, _⟩ := h
    rfl
  · obtain ⟨d, c, n, ns, p, v, bs, rfl, pen, hn, hB, lt, vb, few, q⟩ := h
    have hu6 := hr.units
    have quiet : (A.deeper (PyProof.Rows.envOfC "_law_cut_right" (defScope sCR) s.heap.objs.size f cdv)).guards = some [] := quiet0
    have hr3 : Room 3 _ := hr.mono (by decide)
    have hr4 : Room 4 _ := hr.mono (by decide)
    refine ⟨_, pss_cons (by exact (ps_set (i := 3) scCR.nd rfl (.inl rfl) (pe_callB (cr_sumLE rfl) (by rfl) mS (by decide +kernel) (pa_cons (pe_lc (own := [("_law_one", 5)]) (g := gName 5) (tt := tYes) (te := tCall spSpl [] (fun _ _ _ => False) (tCons (tVar 0) (tCons (tVar 5) tNil))) rfl scCR.nd (pi_list (pv 1))
          (blkOk_by (N := nCR) (sc := defScope sCR) (by decide +kernel)) (fun _ _ _ _ _ => by exact (pg_name (i := 5) scCR.nd rfl (Or.inl rfl))) (fun _ _ _ _ _ => by exact pts_nil)
          (fun _ _ _ _ _ => by exact (pe_call SP.ok hr3 rfl SP.m SP.k SP.b .nil pass0 (pa_cons (pv 0) (pa_cons (pv 5) pa_nil))))) (pa_cons (pe_lst pa_nil) pa_nil)))))
      (pss_cons (by exact (ps_set (i := 4) scCR.nd rfl (.inl rfl) (pe_call LM.ok hr rfl LM.m LM.k LM.b .nil pass0 (pa_cons (pv 3) pa_nil))))
      (pss_cons (by exact (ps_if (pt_cmpR op_ne (pe_callB (call_repr quiet hu6) (by rfl) mRe (by decide +kernel) (pa_cons (pe_lst (pa_cons (pe_cmpR (op_own G.eq G.eqAt G.eqF G.eqB pass0 hr3) (pv 2) (pv 4) (nomark _)) (pa_cons (pe_cmpR (op_own G.eq G.eqAt G.eqF G.eqB pass0 hr3) (pv 4) (pv 2) (nomark _)) (pa_cons (pe_cmpR (op_ownNe G.eq G.eqAt G.eqF G.eqB pass0 hr4 G.ne G.k.obj) (pv 2) (pv 4) (nomark _)) pa_nil)))) pa_nil)) (pe_callB (call_repr quiet hu6) (by rfl) mRe (by decide +kernel) (pa_cons (pe_lst (pa_cons pe_bl (pa_cons pe_bl (pa_cons pe_bl pa_nil)))) pa_nil)) (nomark _)) (pss_one (by exact (ps_ret pe_bl))) pss_nil))
      (pss_one (by exact (ps_ret (pe_and (pe_cmpR op_isN (pe_meth (pv 2) G.k.cls G.dfM G.df hr3 G.dfB .nil pass0 (pa_cons (pv 4) pa_nil)) pe_non (nomark _)) (pe_and (pe_cmpR op_isN (pe_methKw (pv 4) G.k.cls G.dfM G.df hr3 G.dfK pass0 (pk_cons (pv 2) pk_nil)) pe_non (nomark _)) (pe_one (pe_cmpR op_eq (pe_prop (pv 4) G.k.cls G.lnP G.ln hr3 G.lnB .nil pass0 rfl) (pe_prop (pv 2) G.k.cls G.lnP G.ln hr3 G.lnB .nil pass0 rfl) (nomark _)))))))))), ?_⟩
    obtain ⟨us, kp, pr⟩ := hB.ex
    refine ⟨_, rfl, p, rfl, ⟨_, SqL.of kp⟩, fun D nD => ?_⟩
    obtain ⟨nDd, nDc⟩ := pen.fresh nD
    have n0 := pen.n0
    refine lc_it (walk_list (K := K) (a := p) (xs := us)) (fun j Y => (∃ (css : List (List (Bk Str))) (ps : List (Addr × List V)), Y D = some (.lst (ps.map fun p => .ref p.1)) ∧ Pcs2 D Y css ps ∧ css.length = j ∧ (css.map wr).flatten = wr (bs.take j) ∧ (∀ cs ∈ css, cs.length ≤ 3 ∧ ∀ b ∈ cs, Vb b)) ∧ PenAt Y d c (n + 40 * j) ns ∧ But d H Y) ⟨⟨[], [], upd_same, ⟨.nil⟩, rfl, rfl, fun _ h => absurd h List.not_mem_nil⟩, (by rw [show n + 40 * ((0 : Nat) : Int) = n by omega]; exact pen.put nDd nDc), But.same (same_upd nD)⟩ (fun j Y _ pw => SqL.of (pen.keepL pw.2.2 kp)) (fun j x Y Y' hj pw yl => ?_) (fun Y pw => ?_)
    · obtain ⟨⟨css, ps, kD, pc, cl, cw, cv⟩, pY, bY⟩ := pw
      obtain ⟨rfl, hx⟩ := yl
      obtain ⟨b, hb, hbk⟩ := pair_at pr hx
      have vbb := vb b (List.mem_of_getElem? hb)
      have j5 : j < 5 := by
        have := (List.getElem?_eq_some_iff.mp hb).1
        omega
      refine ⟨rfl, ?_⟩
      dsimp only [tYes]
      rw [if_pos rfl]
      refine ⟨_, rfl, _, rfl, d, c, n + 40 * j, ns, x, b, rfl, pY, by omega, hbk.but pen.nT pen.nL bY, vbb, fun p2 cs Z cut hL pZ bZ => ?_⟩
      obtain ⟨us2, kp2, pr2⟩ := hL.ex
      have kDZ := bZ _ _ kD nDd
      have psl : ps.length = j := by rw [← pair_len pc.p, cl]
      have rfD : ∀ v ∈ ps.map (fun p : Addr × List V => V.ref p.1), ∃ t, v = .ref t := fun v hv => by
        obtain ⟨a, _, e⟩ := List.mem_map.mp hv
        exact ⟨_, e.symm⟩
      have np2 : p2 ≠ D := fun z => by
        rw [z, kDZ] at kp2
        have e : ps.map (fun p : Addr × List V => V.ref p.1) = us2 := by injection kp2 with kp2; injection kp2
        cases cs with
        | nil =>
          have l := congrArg List.length cut.wr
          rw [len_one] at l
          have := Nat.mul_pos vbb.l1 vbb.t1
          have : (wr ([] : List (Bk Str))).length = 0 := rfl
          omega
        | cons c0 r =>
          cases pr2 with
          | @cons _ u _ us3 hu _ =>
            obtain ⟨t0, a0, rfl, h1, _⟩ := hu
            have m : V.ref t0 ∈ ps.map (fun p : Addr × List V => V.ref p.1) := by rw [e]; exact List.mem_cons_self ..
            obtain ⟨q0, hq0, e0⟩ := List.mem_map.mp m
            obtain ⟨k0, hk0⟩ := List.getElem?_of_mem hq0
            obtain ⟨_, _, _, h2, _⟩ := pair_at pc.p hk0
            have h3 := pY.keepL bZ h2
            injection e0 with e0
            rw [e0, h1] at h3
            cases h3
      refine ⟨_, kDZ, Nat.lt_of_le_of_lt (by rw [List.length_map]; omega : _ ≤ 5) (by decide), ⟨css ++ [cs], ps ++ [(p2, us2)], by rw [List.map_append]; exact upd_same, ⟨pair_app (pair_mem pc.p fun cs0 p0 hc _ z => ⟨z.1, by rw [upd_ne z.1]; exact pY.keepL bZ z.2.1, pairL_put kDZ rfD but_upd (fun b hb => ((cv cs0 hc).2 b hb).l1) (pY.pairL bZ z.2.2)⟩) (.cons ⟨np2, by rw [upd_ne np2]; exact kp2, pairL_put kDZ rfD but_upd (fun b hb => (cut.ok b hb).l1) pr2⟩ .nil)⟩, by rw [List.length_append, cl]; rfl, ?_, fun c0 hc0 => ?_⟩, ?_, (bY.trans bZ).put nD⟩
      · rw [List.map_append, List.flatten_append, cw, List.take_succ, hb, wr_app]
        show _ ++ (wr cs ++ []) = _ ++ wr [b]
        rw [List.append_nil, cut.wr, wr_cons, wr_nil, List.append_nil]
      · rcases List.mem_append.mp hc0 with h | h
        · exact cv c0 h
        · rw [List.mem_singleton] at h
          exact h ▸ ⟨cut.few, cut.ok⟩
      · rw [show n + 40 * ((j + 1 : Nat) : Int) = n + 40 * j + 40 by omega]
        exact pZ.put nDd nDc
    · obtain ⟨⟨css, ps, kD, pc, cl, cw, cv⟩, pY, bY⟩ := pw
      have ul : us.length = bs.length := (pair_len pr).symm
      rw [ul, List.take_length] at cw
      have psl : ps.length = us.length := by rw [← pair_len pc.p, cl]
      replace pY : PenAt Y d c (n + 200) ns := pY.le (by omega)
      have lY := LT.but pen bY lt
      have hw : wr css.flatten = wr bs := by
        rw [← cw]
        unfold wr
        rw [List.map_flatten, List.flatten_flatten, List.map_map]
        rfl
      have vf : ∀ b ∈ css.flatten, Vb b := fun b hb => by
        obtain ⟨l, hl, hb⟩ := List.mem_flatten.mp hb
        exact (cv l hl).2 b hb
      have fl : css.flatten.length ≤ 15 := Nat.le_trans (cut_len fun cs hc => (cv cs hc).1) (by omega)
      have rb : Rb bs := ⟨vb, by omega⟩
      have rc : Rb css.flatten := ⟨vf, by omega⟩
      have iu : IsU (wr bs) (wr css.flatten) none := hw.symm
      have iu' : IsU (wr css.flatten) (wr bs) none := hw
      refine ⟨(by show 0 ≤ sizeLine; decide), fun B nB => ?_⟩
      have sB := same_upd (o := .lst []) nB
      by_cases e0 : ps = []
      case' pos =>
        subst e0
        refine .inl ⟨D, B, [], rfl, sB _ _ kD, upd_same, ?_⟩
        have ec : css = [] := List.eq_nil_of_length_eq_zero (pair_len pc.p)
        have hL : LBs (upd Y B (.lst [])) B css.flatten := by
          rw [ec]
          exact ⟨[], upd_same, .nil⟩
        have sL := sB
        generalize upd Y B (.lst []) = X at hL sL ⊢
        generalize B = L at hL ⊢
      case' neg =>
        have pf : Paired (fun b v => BkL Y b v) css.flatten (ps.map (·.2)).flatten := by
          have z := pc.p
          clear cl cw cv vf fl rb rc iu iu' hw
          revert z
          generalize css = cs1
          generalize ps = ps1
          intro z
          induction z with
          | nil => exact .nil
          | cons a _ ih => exact pair_app a.2.2 ih
        refine .inr ⟨D, B, ps, [], rfl, sB _ _ kD, upd_same, List.length_pos_iff.mpr e0, fun p0 hp0 => ?g1, ?g2, fun L nL => ?g3⟩
        case g1 =>
          obtain ⟨k0, hk0⟩ := List.getElem?_of_mem hp0
          obtain ⟨_, _, _, h2, _⟩ := pair_at pc.p hk0
          exact sB _ _ h2
        case g2 =>
          show 0 + _ ≤ sizeLine
          rw [← pair_len pf]
          exact Nat.le_trans (by omega) (by decide : 20 ≤ sizeLine)
        have sL := sB.trans (same_upd (o := .lst ([] ++ (ps.map (·.2)).flatten)) nL)
        have hL : LBs (upd (upd Y B (.lst [])) L (.lst ([] ++ (ps.map (·.2)).flatten))) L css.flatten := ⟨_, upd_same, bkL_same sL pf⟩
        generalize upd (upd Y B (.lst [])) L (.lst ([] ++ (ps.map (·.2)).flatten)) = X at hL sL ⊢
      all_goals
        obtain ⟨us3, kL, prL⟩ := hL.ex
        refine ⟨_, rfl, L, us3, css.flatten, rfl, kL, prL, vf, by omega, fun tw Z lz sz => ?_⟩
        have lm := (lY.same sL).same sz
        refine ⟨_, rfl, _, rfl, eq_read G.k G.n0 lm lz rb rc fun r1 Z1 i1 t1 => ?_⟩
        obtain rfl : r1 = none := i1.eq iu
        refine ⟨_, rfl, _, rfl, eq_read G.k G.n0 (lz.same t1) (lm.same t1) rc rb fun r2 Z2 i2 t2 => ?_⟩
        obtain rfl : r2 = none := i2.eq iu'
        have t12 := t1.trans t2
        refine ⟨_, rfl, _, rfl, ne_read G.k G.n0 (lm.same t12) (lz.same t12) rb rc fun r3 Z3 i3 t3 => ?_⟩
        obtain rfl : r3 = none := i3.eq iu
        have t13 := t12.trans t3
        refine ⟨(by show 3 ≤ sizeLine; decide), fun A1 a1 => ⟨_, _, rfl, .dp (.lst (SqL.of upd_same) (.cons (.bl true) (.cons (.bl true) (.cons (.bl false) .nil)))), shows_ttf, (by show 3 ≤ sizeLine; decide), fun A2 a2 => ⟨_, _, rfl, .dp (.lst (SqL.of upd_same) (.cons (.bl true) (.cons (.bl true) (.cons (.bl false) .nil)))), shows_ttf, rfl, _, rfl, ?_⟩⟩⟩
        rw [decide_eq_true rfl]
        refine iteF ?_
        have s4 := t13.trans ((same_upd a1).trans (same_upd (o := .lst [.bl true, .bl true, .bl false]) a2))
        have lm4 := lm.same s4
        have lz4 := lz.same s4
        obtain ⟨am, dm, tm, um, rfl, hm, _⟩ := id lm4
        obtain ⟨az, dz, tz, uz, rfl, hz, _⟩ := id lz4
        refine ⟨_, rfl, am, dm, _, rfl, hm, rfl, _, rfl, bs, css.flatten, _, _, rfl, lm4, lz4, rb, rc, fun r5 Z5 i5 t5 => ?_⟩
        obtain rfl : r5 = none := i5.eq iu
        refine ⟨rfl, _, rfl, iteT ?_⟩
        refine ⟨_, rfl, az, dz, _, rfl, t5 _ _ hz, rfl, _, rfl, css.flatten, bs, _, _, rfl, lz4.same t5, lm4.same t5, rc, rb, fun r6 Z6 i6 t6 => ?_⟩
        obtain rfl : r6 = none := i6.eq iu'
        have t56 := t5.trans t6
        refine ⟨rfl, _, rfl, iteT ?_⟩
        refine ⟨_, rfl, az, dz, _, rfl, t56 _ _ hz, css.flatten, _, rfl, lz4.same t56, rc, fun Z7 t7 => ?_⟩
        have t57 := t56.trans t7
        refine ⟨_, rfl, am, dm, _, rfl, t57 _ _ hm, bs, _, rfl, lm4.same t57, rb, fun Z8 t8 => ⟨rfl, ?_⟩⟩
        rw [hw, decide_eq_true rfl]
        have sAll := (((sL.trans sz).trans s4).trans t57).trans t8
        exact q Z8 (pY.keep sAll) (bY.trans (But.same sAll))
end
end LA
end
section
set_option Elab.async false
set_option linter.all false
set_option maxRecDepth 100000
set_option maxHeartbeats 4100000
namespace LA
open PySem L2 XS XT LM XV XO XK
theorem cod_app (a b : Str) : cod (a ++ b) = cod a ++ cod b := TL.tl_append a b
/-- one line, written once -/
theorem one_line {hs : List (Bk Str)} (v : ∀ b ∈ hs, Vb b) (h : (wr hs).length = 1) : ∃ y, hs = [([y], 1)] := by
  cases hs with
  | nil => exact absurd h (by show ¬ (0 = 1); decide)
  | cons b r =>
    have vb := v b (List.mem_cons_self ..)
    rw [wr_cons, List.length_append, len_one] at h
    have p := Nat.mul_pos vb.l1 vb.t1
    have e1 : b.1.length * b.2 = 1 := by omega
    have l1 : b.1.length = 1 := Nat.eq_one_of_mul_eq_one_right e1
    have t1 : b.2 = 1 := Nat.eq_one_of_mul_eq_one_left e1
    have r0 : r = [] := by
      cases r with
      | nil => rfl
      | cons c r =>
        have vc := v c (List.mem_cons_of_mem _ (List.mem_cons_self ..))
        rw [wr_cons, List.length_append, len_one] at h
        have := Nat.mul_pos vc.l1 vc.t1
        omega
    obtain ⟨y, ey⟩ := List.length_eq_one_iff.mp l1
    refine ⟨y, ?_⟩
    rw [r0]
    obtain ⟨b1, b2⟩ := b
    dsimp only at ey t1
    rw [ey, t1]
theorem mem_wr {bs : List (Bk Str)} {y : Str} (h : y ∈ wr bs) : ∃ b ∈ bs, y ∈ b.1 := by
  unfold wr at h
  obtain ⟨l, hl, hy⟩ := List.mem_flatten.mp h
  obtain ⟨b, hb, rfl⟩ := List.mem_map.mp hl
  unfold one at hy
  obtain ⟨l2, hl2, hy2⟩ := List.mem_flatten.mp hy
  rw [List.eq_of_mem_replicate hl2] at hy2
  exact ⟨b, hb, hy2⟩
theorem size_le {bs : List (Bk Str)} (v : ∀ b ∈ bs, Vb b) : (wr bs).length ≤ bs.length * (4 * 10 ^ 30) := by
  induction bs with
  | nil => exact Nat.zero_le _
  | cons b r ih =>
    have vb := v b (List.mem_cons_self ..)
    have h := ih fun c hc => v c (List.mem_cons_of_mem _ hc)
    rw [wr_cons, List.length_append, len_one, List.length_cons, Nat.succ_mul]
    have m := Nat.mul_le_mul vb.l4 vb.t30
    omega
theorem isU_lt {u v : List Str} {n : Nat} (h : IsU u v (some n)) : n < max u.length v.length := by
  rcases Nat.lt_or_ge n (max u.length v.length) with c | c
  · exact c
  · exact absurd (by rw [List.getElem?_eq_none (by omega), List.getElem?_eq_none (by omega)]) h.1
theorem isU_small {bs cs : List (Bk Str)} (vb : ∀ b ∈ bs, Vb b) (vc : ∀ b ∈ cs, Vb b) (lb : bs.length ≤ 30) (lc : cs.length ≤ 30) {r : Option Nat} (h : IsU (wr bs) (wr cs) r) : ∀ n, upN r = some n → n < 2 ^ 200 := fun n e => by
  cases r with
  | none => cases e
  | some m =>
    have em : m + 1 = n := Option.some.inj e
    have h1 := isU_lt h
    have h2 := size_le vb
    have h3 := size_le vc
    have h4 : bs.length * (4 * 10 ^ 30) ≤ 30 * (4 * 10 ^ 30) := Nat.mul_le_mul_right _ lb
    have h5 : cs.length * (4 * 10 ^ 30) ≤ 30 * (4 * 10 ^ 30) := Nat.mul_le_mul_right _ lc
    have h6 : 30 * (4 * 10 ^ 30) + 1 < 2 ^ 200 := by decide
    omega
/-- a line exchanged for one with a q -/
theorem isU_q {as cs : List (Bk Str)} {y0 q : Str} (ne : y0 ≠ q) : IsU (wr as ++ ([y0] ++ wr cs)) (wr as ++ ([q] ++ wr cs)) (some (wr as).length) := by
  refine ⟨fun e => ?_, fun m hm => ?_⟩
  · rw [List.getElem?_append_right (Nat.le_refl _), List.getElem?_append_right (Nat.le_refl _), Nat.sub_self] at e
    exact ne (Option.some.inj e)
  · rw [List.getElem?_append_left hm, List.getElem?_append_left hm]
theorem shows_tf : Shows (.list [.bool true, .bool false]) := ⟨rfl, by decide +kernel, by decide +kernel⟩
theorem shows_ft : Shows (.list [.bool false, .bool true]) := ⟨rfl, by decide +kernel, by decide +kernel⟩
theorem shows_bl (r : Option Nat) : Shows (.list [.bool r.isNone, .bool r.isSome]) := by
  cases r
  · exact shows_tf
  · exact shows_ft
end LA
end
section
set_option Elab.async false
set_option linter.all false
set_option maxRecDepth 100000
set_option maxHeartbeats 8100000
namespace LA
open PySem L2 XS XT LM XV XO XK
abbrev sER : Stmt := top 44
abbrev nER : List Str := ["_law_pen_here", "_law_blocks", "_law_made", "_law_strange", "_law_size", "_law_number", "_law_ahead", "_law_here", "_law_behind", "_law_some", "_law_due", "_law_more", "_law_wanted", "_law_twin"]
theorem scER : FnScope nER ["_law_pen_here", "_law_blocks", "_law_made", "_law_strange"] (defScope sER) := ⟨rfl, rfl, rfl, by decide +kernel, rfl, by decide +kernel, by decide +kernel⟩
theorem isU_upto {u v : List Str} : ∀ n, (∃ r, IsU u v r) ∨ ∀ m : Nat, m < n → u[m]? = v[m]?
  | 0 => .inr fun m h => absurd h (Nat.not_lt_zero _)
  | n + 1 => by
    rcases isU_upto (u := u) (v := v) n with h | h
    · exact .inl h
    · by_cases c : u[n]? = v[n]?
      · refine .inr fun m hm => ?_
        by_cases d : m < n
        · exact h m d
        · rw [show m = n by omega]
          exact c
      · exact .inl ⟨some n, c, h⟩
theorem isU_ex (u v : List Str) : ∃ r, IsU u v r := by
  rcases isU_upto (u := u) (v := v) (max u.length v.length) with h | h
  · exact h
  · refine ⟨none, List.ext_getElem? fun m => ?_⟩
    by_cases d : m < max u.length v.length
    · exact h m d
    · rw [List.getElem?_eq_none (by omega), List.getElem?_eq_none (by omega)]
theorem shaped_strs (ys : List Str) (h : ∀ z ∈ ys, lineB z = true) : SeqAt.shaped (.list (ys.map PyData.str)) = true := by
  unfold SeqAt.shaped
  have h1 : PyData.canLay0 (.list (ys.map PyData.str)) = true := by
    unfold PyData.canLay0
    exact canLay_strs ys h
  have h2 : PyData.depth (.list (ys.map PyData.str)) ≤ 64 := by
    unfold PyData.depth
    rw [depth_strs]
    decide
  rw [h1, decide_eq_true h2]
  rfl
section
variable {P : Program} {w : World} {K : PySem.W.Frag} {mg : Str → Option Value} {base : Heap} {C : Addr}
/-- exchanged_right -/
def spER (C : Addr) : Sp := fun vs H Q _ => ∃ (d c : Addr) (n : Int) (ns : List Int) (p : Addr) (v : V) (y z : Str) (bs : List (Bk Str)), vs = [.ref d, .ref p, v, .str y] ∧ PenAt H d c n ns ∧ n + 40 < 1000000 ∧ LBs H p bs ∧ LT C H bs v ∧ (∀ b ∈ bs, Lb z b) ∧ Sgn z ∧ Sm z y ∧ bs ≠ [] ∧ bs.length ≤ 5 ∧
  ∀ H', PenAt H' d c (n + 40) ns → But d H H' → Q (.bl true) H'
/-- one of the four: what is put in, and what is due -/
def ItOk (X : Hp) (it : List (Bk Str) × V) (v : V) : Prop := ∃ t a, v = .ref t ∧ X t = some (.tup [.ref a, it.2]) ∧ LBs X a it.1
theorem ItOk.same {X Y : Hp} (s : Same X Y) {it : List (Bk Str) × V} {v : V} (h : ItOk X it v) : ItOk Y it v := by
  obtain ⟨t, a, e, h1, h2⟩ := h
  exact ⟨t, a, e, s _ _ h1, h2.same s⟩
theorem ok_ER {f fE fD fN pN fB pB f1 f2 f3 f4 f5 f6 f7 : Addr} {fd fdE fdD fdN fdB fd1 fd2 fd3 fd4 fd5 fd6 fd7 : FuncData} (F : Fun K "_law_exchanged_right" "_law_exchanged_right" sER f fd) (G : LgF P w K mg base C fE fD fN pN fB pB fdE fdD fdN fdB) (mI : mg "int" = none) (mRe : mg "repr" = none)
    (LS : CallOf P w K mg base 1 "_law_lsize" ["_law_blocks"] spLS f1 fd1) (GR : CallOf P w K mg base 2 "_law_great" ["_law_pen_here", "_law_digits"] spGreat f2 fd2) (RA : CallOf P w K mg base 1 "_law_rows_at" ["_law_blocks", "_law_spots"] spRA f3 fd3) (LW : CallOf P w K mg base 1 "_law_lwritten" ["_law_blocks"] spLW f4 fd4)
    (LL : CallOf P w K mg base 1 "_law_lline" ["_law_blocks", "_law_slot"] spLL f5 fd5) (AP : CallOf P w K mg base 2 "_law_apart" ["_law_one", "_law_more"] spAp f6 fd6) (LM : CallOf P w K mg base 8 "_law_lmade" ["_law_blocks"] (spLM C) f7 fd7) : AtG P w K mg base CX0 9 f fd ["_law_pen_here", "_law_blocks", "_law_made", "_law_strange"] (spER C) := by
  refine atG F scER (fun vs H Q E h => ?_) (fun cdv A outer s H vs Q E quiet0 hr h => ?_)
  · obtain ⟨d, c, n, ns, p, v, y, z, bs, rfl, _⟩ := h
    rfl
  · obtain ⟨d, c, n, ns, p, v, y, z, bs, rfl, pen, hn, hB, lt, lb, sz, sy, ne, few, q⟩ := h
    have hu6 := hr.units
    have quiet : (A.deeper (PyProof.Rows.envOfC "_law_exchanged_right" (defScope sER) s.heap.objs.size f cdv)).guards = some [] := quiet0
    have hr1 : Room 1 _ := hr.mono (by decide)
    have hr2 : Room 2 _ := hr.mono (by decide)
    have hr3 : Room 3 _ := hr.mono (by decide)
    have hr4 : Room 4 _ := hr.mono (by decide)
    refine ⟨_, pss_cons (by exact (ps_set (i := 4) scER.nd rfl (.inl rfl) (pe_call LS.ok hr1 rfl LS.m LS.k LS.b .nil pass0 (pa_cons (pv 1) pa_nil))))
      (pss_cons (by exact (ps_set (i := 5) scER.nd rfl (.inl rfl) (pe_op op_add pe_int (pe_op op_mod (pe_callTy call_int1 (by rfl) mI (by decide +kernel) (pa_cons (pe_call GR.ok hr2 rfl GR.m GR.k GR.b .nil pass0 (pa_cons (pv 0) (pa_cons pe_int pa_nil))) pa_nil)) (pv 4)))))
      (pss_cons (by exact (ps_asg (pe_call RA.ok hr1 rfl RA.m RA.k RA.b .nil pass0 (pa_cons (pv 1) (pa_cons (pe_lst (pa_cons (pe_op op_sub (pv 5) pe_int) (pa_cons (pv 5) pa_nil))) pa_nil))) (pg_lst rfl (pgs_cons (by exact (pg_name (i := 6) scER.nd rfl (Or.inl rfl))) (pgs_cons (by exact (pg_name (i := 7) scER.nd rfl (Or.inl rfl))) (pgs_cons (by exact (pg_name (i := 8) scER.nd rfl (Or.inl rfl))) pgs_nil))))))
      (pss_cons (by exact (ps_if (PW.pt (pw_or (pt_cmpR op_ne (pe_call LS.ok hr1 rfl LS.m LS.k LS.b .nil pass0 (pa_cons (pv 6) pa_nil)) (pe_op op_sub (pv 5) pe_int) (nomark _)) (pw_or1 (pt_cmpR (op_neD hu6) (pe_call LW.ok hr1 rfl LW.m LW.k LW.b .nil pass0 (pa_cons (pv 7) pa_nil)) (pe_lst (pa_cons (pe_call LL.ok hr1 rfl LL.m LL.k LL.b .nil pass0 (pa_cons (pv 1) (pa_cons (pv 5) pa_nil))) pa_nil)) (nomark _))))) (pss_one (by exact (ps_ret pe_bl))) pss_nil))
      (pss_cons (by exact (ps_for PassesOwn.never rfl (pi_list (pe_lst (pa_cons (pe_tup (pa_cons (pe_lst (pa_cons (pe_tup (pa_cons (pe_lst (pa_cons (pe_op op_add_str pe_str (pv 3)) pa_nil)) (pa_cons pe_int pa_nil))) pa_nil)) (pa_cons (pv 5) pa_nil))) (pa_cons (pe_tup (pa_cons (pv 7) (pa_cons pe_non pa_nil))) (pa_cons (pe_tup (pa_cons (pe_op op_cat (pv 7) (pe_lst (pa_cons (pe_tup (pa_cons (pe_lst (pa_cons (pv 3) pa_nil)) (pa_cons pe_int pa_nil))) pa_nil))) (pa_cons pe_str pa_nil))) (pa_cons (pe_tup (pa_cons (pe_lst pa_nil) (pa_cons pe_str pa_nil))) pa_nil)))))) (pg_tup rfl (pgs_cons (by exact (pg_name (i := 9) scER.nd rfl (Or.inl rfl))) (pgs_cons (by exact (pg_name (i := 10) scER.nd rfl (Or.inl rfl))) pgs_nil))) (pss_cons (by exact (ps_set (i := 11) scER.nd rfl (.inl rfl) (pe_op op_cat (pe_op op_cat (pv 6) (pv 9)) (pv 8))))
      (pss_cons (by exact (ps_set (i := 12) scER.nd rfl (.inl rfl) (pe_ifExp (pt_cmpR op_eq (pv 10) pe_str (nomark _)) (pe_call AP.ok hr2 rfl AP.m AP.k AP.b .nil pass0 (pa_cons (pv 1) (pa_cons (pv 11) pa_nil))) (pv 10))))
      (pss_cons (by exact (ps_set (i := 13) scER.nd rfl (.inl rfl) (pe_call LM.ok hr rfl LM.m LM.k LM.b .nil pass0 (pa_cons (pv 11) pa_nil))))
      (pss_cons (by exact (ps_if (pt_cmpR op_ne (pe_callB (call_repr quiet hu6) (by rfl) mRe (by decide +kernel) (pa_cons (pe_lst (pa_cons (pe_meth (pv 2) G.k.cls G.dfM G.df hr3 G.dfB .nil pass0 (pa_cons (pv 13) pa_nil)) (pa_cons (pe_meth (pv 13) G.k.cls G.dfM G.df hr3 G.dfB .nil pass0 (pa_cons (pv 2) pa_nil)) pa_nil))) pa_nil)) (pe_callB (call_repr quiet hu6) (by rfl) mRe (by decide +kernel) (pa_cons (pe_lst (pa_cons (pv 12) (pa_cons (pv 12) pa_nil))) pa_nil)) (nomark _)) (pss_one (by exact (ps_ret pe_bl))) pss_nil))
      (pss_one (by exact (ps_if (pt_cmpR op_ne (pe_callB (call_repr quiet hu6) (by rfl) mRe (by decide +kernel) (pa_cons (pe_lst (pa_cons (pe_cmpR (op_own G.eq G.eqAt G.eqF G.eqB pass0 hr3) (pv 2) (pv 13) (nomark _)) (pa_cons (pe_cmpR (op_ownNe G.eq G.eqAt G.eqF G.eqB pass0 hr4 G.ne G.k.obj) (pv 2) (pv 13) (nomark _)) pa_nil))) pa_nil)) (pe_callB (call_repr quiet hu6) (by rfl) mRe (by decide +kernel) (pa_cons (pe_lst (pa_cons (pe_cmpR op_isN (pv 12) pe_non (nomark _)) (pa_cons (pe_cmpR op_notN (pv 12) pe_non (nomark _)) pa_nil))) pa_nil)) (nomark _)) (pss_one (by exact (ps_ret pe_bl))) pss_nil)))))))))
      (pss_one (by exact (ps_ret pe_bl))))))), ?_⟩
    have vb : ∀ b ∈ bs, Vb b := fun b hb => (lb b hb).v
    have n0 := pen.n0
    refine ⟨_, rfl, p, bs, rfl, hB, vb, by omega, fun H1 s1 => ?_⟩
    refine ⟨_, rfl, d, c, n, ns, 31, rfl, pen.keep s1, by omega, by decide, fun g H2 hg p2 b2 => .inl ⟨_, rfl, _, rfl, _, _, rfl, rfl, ?_, _, _, rfl, rfl, ?_⟩⟩
    · obtain ⟨b, r, rfl⟩ := List.exists_cons_of_ne_nil ne
      have vb0 := vb b (List.mem_cons_self ..)
      have := Nat.mul_pos vb0.l1 vb0.t1
      rw [wr_cons, List.length_append, len_one]
      omega
    · have sp : 0 < (wr bs).length := by
        obtain ⟨b, r, rfl⟩ := List.exists_cons_of_ne_nil ne
        have vb0 := vb b (List.mem_cons_self ..)
        have := Nat.mul_pos vb0.l1 vb0.t1
        rw [wr_cons, List.length_append, len_one]
        omega
      obtain ⟨k, ek⟩ : ∃ k, k = g % (wr bs).length := ⟨_, rfl⟩
      have kl : k < (wr bs).length := ek ▸ Nat.mod_lt _ sp
      have eN : (1 : Int) + (g : Int) % ((wr bs).length : Int) = (k : Int) + 1 := by
        have z : (g : Int) % ((wr bs).length : Int) = ((g % (wr bs).length : Nat) : Int) := rfl
        rw [z, ← ek]
        omega
      simp only [eN]
      have hB2 := (hB.same s1).pen (pen.keep s1) b2
      have lt2 := LT.but (pen.keep s1) b2 (lt.same s1)
      have bd2 : But d H H2 := (But.same s1).trans b2
      refine ⟨_, rfl, _, rfl, _, _, rfl, rfl, _, rfl, (by show 2 ≤ sizeLine; decide), fun S nS => ?_⟩
      have sS := same_upd (o := .lst [.int ((k : Int) + 1 - 1), .int ((k : Int) + 1)]) nS
      refine ⟨p, S, bs, k, rfl, hB2.same sS, by rw [upd_same]; show some (HO.lst [V.int ((k : Int) + 1 - 1), V.int ((k : Int) + 1)]) = _; rw [show (k : Int) + 1 - 1 = (k : Int) by omega], vb, kl, by omega, fun R A B D as hs cs H4 hR hA hBB hC va vh vc e1 e2 e3 e4 s4 => ?_⟩
      have s24 := sS.trans s4
      obtain ⟨y0, rfl⟩ := one_line vh e2
      have e3' : wr as ++ ([y0] ++ wr cs) = wr bs := e3
      have ey : (wr bs)[k]? = some y0 := by
        rw [← e3', List.getElem?_append_right (by omega), e1, Nat.sub_self]
        rfl
      obtain ⟨b0, hb0, hy0⟩ := mem_wr (List.mem_of_getElem? ey)
      have ok0 := (vb b0 hb0).ok y0 hy0
      have nq0 := (lb b0 hb0).noq sz y0 hy0
      refine ⟨R, _, rfl, SqL.of hR, rfl, _, _, rfl, _, _, rfl, _, _, rfl, rfl, ?_⟩
      refine ⟨_, rfl, A, as, rfl, hA, va, by omega, fun H5 s5 => ⟨_, rfl, _, _, rfl, rfl, rfl, _, rfl, ?_⟩⟩
      rw [decide_eq_true (show V.int ((wr as).length : Int) = V.int ((k : Int) + 1 - 1) from congrArg V.int (by omega))]
      refine iteF ?_
      refine ⟨_, rfl, B, y0, rfl, hBB.same s5, fun r6 H6 hr6 s6 => ⟨_, rfl, _, rfl, p, bs, _, k, rfl, rfl, ((hB2.same s24).same s5).same s6, vb, fun H7 s7 => ?_⟩⟩
      rw [ey]
      refine ⟨(by show 1 ≤ sizeLine; decide), fun L7 n7 => ?_⟩
      have sL7 := same_upd (o := .lst [optS (some y0)]) n7
      refine ⟨.list ([y0].map PyData.str), .list ([y0].map PyData.str), .lst (SqL.of (sL7 _ _ (s7 _ _ hr6))) (dp_strs [y0]), .lst (SqL.of upd_same) (dp_strs [y0]), shaped_strs [y0] (fun z hz => by rw [List.mem_singleton] at hz; exact hz ▸ ok0.1), shaped_strs [y0] (fun z hz => by rw [List.mem_singleton] at hz; exact hz ▸ ok0.1), _, rfl, ?_⟩
      have ee : PyData.eqv (.list ([y0].map PyData.str)) (.list ([y0].map PyData.str)) = true := by simp [PyData.eqv, PyData.eqvAll]
      rw [ee]
      refine iteF ?_
      have s47 := ((s5.trans s6).trans s7).trans sL7
      have s27 := s24.trans s47
      have hA7 := hA.same s47
      have hB7 := hBB.same s47
      have hC7 := hC.same s47
      generalize upd H7 L7 (.lst [optS (some y0)]) = H8 at s27 hA7 hB7 hC7 ⊢
      clear s47 sL7
      obtain ⟨ub, kB7, prB7⟩ := hB7.ex
      refine ⟨_, rfl, _, _, rfl, rfl, ?_, (by show 1 ≤ sizeLine; decide), fun a1 n1 => ⟨(by show 2 ≤ sizeLine; decide), fun t1 m1 => ⟨(by show 1 ≤ sizeLine; decide), fun l1 k1 => ⟨_, rfl, (by show 2 ≤ sizeLine; decide), fun T1 nT1 => ?_⟩⟩⟩⟩
      · have := sy.le
        show 1 + y.length ≤ sizeLine
        exact Nat.le_trans (by omega) (by decide : 3 ≤ sizeLine)
      have c1 := same_upd (o := .lst [.str ("q" ++ y)]) n1
      have c2 := same_upd (o := .tup [.ref a1, .int 1]) m1
      have c3 := same_upd (o := .lst [.ref t1]) k1
      have c4 := same_upd (o := .tup [.ref l1, .int ((k : Int) + 1)]) nT1
      have i1 : ItOk _ ([(["q" ++ y], 1)], .int ((k : Int) + 1)) (.ref T1) := ⟨T1, l1, rfl, upd_same, ⟨_, c4 _ _ upd_same, .cons ⟨t1, a1, rfl, c4 _ _ (c3 _ _ upd_same), c4 _ _ (c3 _ _ (c2 _ _ upd_same))⟩ .nil⟩⟩
      have c14 := (c1.trans c2).trans (c3.trans c4)
      refine ⟨_, rfl, (by show 2 ≤ sizeLine; decide), fun T2 nT2 => ?_⟩
      have c5 := same_upd (o := .tup [.ref B, .non]) nT2
      have i2 : ItOk _ ([([y0], 1)], .non) (.ref T2) := ⟨T2, B, rfl, upd_same, (hB7.same c14).same c5⟩
      refine ⟨_, rfl, _, rfl, (by show 1 ≤ sizeLine; decide), fun a2 n2 => ⟨(by show 2 ≤ sizeLine; decide), fun t2 m2 => ⟨(by show 1 ≤ sizeLine; decide), fun l2 k2 => ?_⟩⟩⟩
      have c6 := same_upd (o := .lst [.str y]) n2
      have c7 := same_upd (o := .tup [.ref a2, .int 1]) m2
      have c8 := same_upd (o := .lst [.ref t2]) k2
      have c58 := c5.trans ((c6.trans c7).trans c8)
      refine ⟨B, l2, _, _, rfl, rfl, c58 _ _ (c14 _ _ kB7), upd_same, ?_, fun l3 k3 => ⟨(by show 2 ≤ sizeLine; decide), fun T3 nT3 => ?_⟩⟩
      · show ub.length + 1 ≤ sizeLine
        rw [← pair_len prB7]
        show 1 + 1 ≤ sizeLine
        decide
      have c9 := same_upd (o := .lst (ub ++ [.ref t2])) k3
      have c10 := same_upd (o := .tup [.ref l3, .str "own"]) nT3
      have nb2 : BkL _ (([y], 1) : Bk Str) (.ref t2) := ⟨t2, a2, rfl, c10 _ _ (c9 _ _ (c8 _ _ upd_same)), c10 _ _ (c9 _ _ (c8 _ _ (c7 _ _ upd_same)))⟩
      have i3 : ItOk _ ([([y0], 1)] ++ [([y], 1)], .str "own") (.ref T3) := ⟨T3, l3, rfl, upd_same, ⟨_, c10 _ _ upd_same, pair_app (bkL_same ((c14.trans c58).trans (c9.trans c10)) prB7) (.cons nb2 .nil)⟩⟩
      refine ⟨(by show 0 ≤ sizeLine; decide), fun l4 k4 => ⟨(by show 2 ≤ sizeLine; decide), fun T4 nT4 => ⟨(by show 4 ≤ sizeLine; decide), fun Z nZ => ?_⟩⟩⟩
      have c11 := same_upd (o := .lst []) k4
      have c12 := same_upd (o := .tup [.ref l4, .str "own"]) nT4
      have c13 := same_upd (o := .lst [.ref T1, .ref T2, .ref T3, .ref T4]) nZ
      have i4 : ItOk _ (([] : List (Bk Str)), .str "own") (.ref T4) := ⟨T4, l4, rfl, upd_same, ⟨_, c12 _ _ upd_same, .nil⟩⟩
      have f1 := (c11.trans c12).trans c13
      have f2 := (c9.trans c10).trans f1
      have f3 := ((c6.trans c7).trans c8).trans f2
      have j1 := i1.same (c5.trans f3)
      have j2 := i2.same f3
      have j3 := i3.same f1
      have j4 := i4.same c13
      have sAll := c14.trans (c5.trans f3)
      have lty : lineB y = true := sy.line sz
      have ltq : lineB ("q" ++ y) = true := lineB_of fun c hc => by
        rw [cod_app] at hc
        rcases List.mem_append.mp hc with h | h
        · have e : c = 113 := List.mem_singleton.mp h
          rw [e]
          decide
        · exact sz.lets c (sy.of c h)
      have lnq : ("q" ++ y).length < 4000 := by
        rw [← len_cod, cod_app, List.length_append, len_cod y]
        have := sy.le
        show 1 + y.length < 4000
        omega
      have nq : y0 ≠ "q" ++ y := fun z => by
        have m : 113 ∈ cod y0 := by
          rw [z, cod_app]
          exact List.mem_append_left _ (List.mem_singleton.mpr rfl)
        exact nq0 113 m rfl
      have v1l : ∀ x : Str, lineB x = true → x.length < 4000 → Vb (([x], 1) : Bk Str) := fun x h1 h2 => ⟨by show 1 ≤ 1; decide, by show 1 ≤ 4; decide, by show 1 ≤ 1; decide, by show 1 ≤ 10 ^ 30; decide, fun z hz => by rw [List.mem_singleton] at hz; exact hz ▸ ⟨h1, h2⟩⟩
      have w1 : ∀ x : Str, wr [(([x], 1) : Bk Str)] = [x] := fun _ => rfl
      have hit : ∀ it ∈ [([(["q" ++ y], 1)], V.int ((k : Int) + 1)), ([([y0], 1)], V.non), ([([y0], 1)] ++ [([y], 1)], V.str "own"), (([] : List (Bk Str)), V.str "own")], (∀ b ∈ it.1, Vb b) ∧ it.1.length ≤ 2 ∧ (it.2 = .str "own" ∨ ∃ r, it.2 = unV (upN r) ∧ IsU (wr bs) (wr (as ++ it.1 ++ cs)) r) := fun it hi => by
        rcases List.mem_cons.mp hi with rfl | hi
        · refine ⟨fun b hb => ?_, by show 1 ≤ 2; decide, .inr ⟨some k, (show V.int ((k : Int) + 1) = V.int ((k + 1 : Nat) : Int) from congrArg V.int (by omega)), ?_⟩⟩
          · rw [List.mem_singleton] at hb
            exact hb ▸ v1l _ ltq lnq
          · have z := isU_q (as := as) (cs := cs) nq
            rw [e3', e1] at z
            rw [wr_app, wr_app, w1, List.append_assoc]
            exact z
        · rcases List.mem_cons.mp hi with rfl | hi
          · refine ⟨fun b hb => ?_, by show 1 ≤ 2; decide, .inr ⟨none, rfl, ?_⟩⟩
            · rw [List.mem_singleton] at hb
              exact hb ▸ v1l _ ok0.1 ok0.2
            · show wr bs = _
              rw [wr_app, wr_app, w1, List.append_assoc]
              exact e3'.symm
          · rcases List.mem_cons.mp hi with rfl | hi
            · refine ⟨fun b hb => ?_, by show 2 ≤ 2; decide, .inl rfl⟩
              rcases List.mem_append.mp hb with h | h
              · rw [List.mem_singleton] at h
                exact h ▸ v1l _ ok0.1 ok0.2
              · rw [List.mem_singleton] at h
                exact h ▸ v1l _ lty (by have := sy.le; omega)
            · rw [List.mem_singleton] at hi
              subst hi
              exact ⟨fun _ h => absurd h List.not_mem_nil, by show 0 ≤ 2; decide, .inl rfl⟩
      obtain ⟨IT, eIT⟩ : ∃ IT, IT = [([(["q" ++ y], 1)], V.int ((k : Int) + 1)), ([([y0], 1)], V.non), ([([y0], 1)] ++ [([y], 1)], V.str "own"), (([] : List (Bk Str)), V.str "own")] := ⟨_, rfl⟩
      rw [← eIT] at hit
      have rb : Rb bs := ⟨vb, by omega⟩
      refine ⟨Z, rfl, ⟨_, SqL.of upd_same⟩, for_it (walk_list (K := K) (a := Z) (xs := [.ref T1, .ref T2, .ref T3, .ref T4])) (fun i σ X => (∃ x9 x10 x11 x12 x13 : Option V, σ = [some (.ref d), some (.ref p), some v, some (.str y), some (.int ((wr bs).length : Int)), some (.int ((k : Int) + 1)), some (.ref A), some (.ref B), some (.ref D), x9, x10, x11, x12, x13]) ∧ Same H8 X ∧ X Z = some (.lst [.ref T1, .ref T2, .ref T3, .ref T4]) ∧ Paired (fun it v => ItOk X it v) IT [.ref T1, .ref T2, .ref T3, .ref T4]) ⟨⟨_, _, _, _, _, rfl⟩, sAll, upd_same, ?_⟩ (fun i σ X _ pw => SqL.of pw.2.2.1) (fun i x σ X X' hi pw yl => ?_) (fun σ X pw => ?_)⟩
      · rw [eIT]
        exact .cons j1 (.cons j2 (.cons j3 (.cons j4 .nil)))
      · obtain ⟨⟨x9, x10, x11, x12, x13, rfl⟩, sX, kZ, pI⟩ := pw
        obtain ⟨rfl, hx⟩ := yl
        obtain ⟨it, hit', t, a, rfl, ht, hS⟩ := pair_at pI hx
        obtain ⟨vS, lS, due⟩ := hit it (List.mem_of_getElem? hit')
        obtain ⟨ua, kA, pA⟩ := (hA7.same sX).ex
        obtain ⟨uS, kS, pS⟩ := hS.ex
        obtain ⟨uc, kC, pC⟩ := (hC7.same sX).ex
        have la := pair_len pA
        have lS2 := pair_len pS
        have lc := pair_len pC
        have e4' : as.length + 1 + cs.length ≤ bs.length + 6 := e4
        refine ⟨t, _, rfl, SqT.of ht, rfl, _, _, rfl, _, _, rfl, rfl, ?_⟩
        refine ⟨_, rfl, _, rfl, A, a, _, _, rfl, rfl, kA, kS, Nat.le_trans (by omega) (by decide : 100 ≤ sizeLine), fun M1 m1' => ?_⟩
        have d1 := same_upd (o := .lst (ua ++ uS)) m1'
        refine ⟨_, rfl, M1, D, _, _, rfl, rfl, upd_same, d1 _ _ kC, by rw [List.length_append]; exact Nat.le_trans (by omega) (by decide : 100 ≤ sizeLine), fun M mM => ?_⟩
        have d2 := d1.trans (same_upd (o := .lst (ua ++ uS ++ uc)) mM)
        have hM : LBs (upd (upd X' M1 (.lst (ua ++ uS))) M (.lst (ua ++ uS ++ uc))) M (as ++ it.1 ++ cs) := ⟨_, upd_same, pair_app (pair_app (bkL_same d2 pA) (bkL_same d2 pS)) (bkL_same d2 pC)⟩
        have vM : ∀ b ∈ as ++ it.1 ++ cs, Vb b := fun b hb => by
          rcases List.mem_append.mp hb with h | h
          · rcases List.mem_append.mp h with h | h
            · exact va b h
            · exact vS b h
          · exact vc b h
        have lM : (as ++ it.1 ++ cs).length ≤ 14 := by
          rw [List.length_append, List.length_append]
          omega
        have rM : Rb (as ++ it.1 ++ cs) := ⟨vM, by omega⟩
        obtain ⟨sc, r, iu, cse⟩ : scal it.2 (.str "own") = true ∧ ∃ r, IsU (wr bs) (wr (as ++ it.1 ++ cs)) r ∧ (it.2 = .str "own" ∨ it.2 = unV (upN r)) := by
          rcases due with e | ⟨r, e, iu⟩
          · obtain ⟨r, iu⟩ := isU_ex (wr bs) (wr (as ++ it.1 ++ cs))
            exact ⟨by rw [e]; rfl, r, iu, .inl e⟩
          · exact ⟨by rw [e]; cases r <;> rfl, r, iu, .inr e⟩
        refine ⟨_, rfl, sc, _, rfl, ?_⟩
        rcases cse with e | e
        case' inl =>
          rw [e, decide_eq_true rfl]
          refine iteT ⟨_, rfl, _, rfl, p, M, bs, _, rfl, ((hB2.same s27).same sX).same d2, hM, vb, vM, by omega, by omega, fun r0 X2 iu0 d3 => ?_⟩
          rw [iu0.eq iu]
          have hT := d2.trans d3
          have hM2 := hM.same d3
          clear d3
        case' inr =>
          rw [e, decide_eq_false (by cases r <;> exact fun z => nomatch z)]
          refine iteF ⟨_, rfl, ?_⟩
          have hT := d2
          have hM2 := hM
          generalize upd (upd X' M1 (.lst (ua ++ uS))) M (.lst (ua ++ uS ++ uc)) = X2 at hT hM2 ⊢
        all_goals
          obtain ⟨uM, kM, pM⟩ := hM2.ex
          refine ⟨_, rfl, M, uM, _, rfl, kM, pM, vM, by omega, fun tw Y lz sY => ?_⟩
          have sTY := hT.trans sY
          have lm := ((lt2.same s27).same sX).same sTY
          have bnd := isU_small vb vM (by omega) (by omega) iu
          obtain ⟨am, dm, tm, um, rfl, hm, _⟩ := id lm
          obtain ⟨az, dz, tz, uz, rfl, hz, _⟩ := id lz
          refine ⟨_, rfl, am, dm, _, rfl, hm, rfl, _, rfl, bs, _, _, _, rfl, lm, lz, rb, rM, fun r5 Z5 i5 t5 => ?_⟩
          rw [i5.eq iu]
          refine ⟨_, rfl, az, dz, _, rfl, t5 _ _ hz, rfl, _, rfl, _, bs, _, _, rfl, lz.same t5, lm.same t5, rM, rb, fun r6 Z6 i6 t6 => ?_⟩
          rw [i6.eq iu.symm]
          have t56 := t5.trans t6
          refine ⟨(by show 2 ≤ sizeLine; decide), fun L1 nL1 => ⟨_, _, rfl, .dp (.lst (SqL.of upd_same) (.cons (dp_un (upN r)) (.cons (dp_un (upN r)) .nil))), shows_two _ bnd, _, rfl, _, rfl, (by show 2 ≤ sizeLine; decide), fun Lb nLb => ⟨_, _, rfl, .dp (.lst (SqL.of upd_same) (.cons (dp_un (upN r)) (.cons (dp_un (upN r)) .nil))), shows_two _ bnd, rfl, _, rfl, ?_⟩⟩⟩
          rw [decide_eq_true rfl]
          refine iteF ?_
          have b1 := same_upd (o := .lst [unV (upN r), unV (upN r)]) nL1
          have b2' := same_upd (o := .lst [unV (upN r), unV (upN r)]) nLb
          have t7 := t56.trans (b1.trans b2')
          refine ⟨_, rfl, _, rfl, eq_read G.k G.n0 (lm.same t7) (lz.same t7) rb rM fun r8 Z8 i8 t8 => ?_⟩
          rw [i8.eq iu]
          have t78 := t7.trans t8
          refine ⟨_, rfl, _, rfl, ne_read G.k G.n0 (lm.same t78) (lz.same t78) rb rM fun r9 Z9 i9 t9 => ?_⟩
          rw [i9.eq iu]
          have t79 := t78.trans t9
          have hN : decide (unV (upN r) = V.non) = r.isNone := by cases r <;> rfl
          have hS' : (!decide (unV (upN r) = V.non)) = r.isSome := by cases r <;> rfl
          have dN : ∀ HH : Hp, Dp K HH (.bl (decide (unV (upN r) = V.non))) (.bool r.isNone) := fun HH => by rw [hN]; exact .bl _
          have dS : ∀ HH : Hp, Dp K HH (.bl (!decide (unV (upN r) = V.non))) (.bool r.isSome) := fun HH => by rw [hS']; exact .bl _
          refine ⟨(by show 2 ≤ sizeLine; decide), fun L3 nL3 => ⟨_, _, rfl, .dp (.lst (SqL.of upd_same) (.cons (.bl r.isNone) (.cons (.bl r.isSome) .nil))), shows_bl r, _, rfl, rfl, _, rfl, rfl, (by show 2 ≤ sizeLine; decide), fun L4 nL4 => ⟨_, _, rfl, .dp (.lst (SqL.of upd_same) (.cons (dN _) (.cons (dS _) .nil))), shows_bl r, rfl, _, rfl, ?_⟩⟩⟩
          rw [decide_eq_true rfl]
          refine iteF ?_
          have b3 := same_upd (o := .lst [.bl r.isNone, .bl r.isSome]) nL3
          have b4 := same_upd (o := .lst [.bl (decide (unV (upN r) = V.non)), .bl (!decide (unV (upN r) = V.non))]) nL4
          have sEnd := sTY.trans (t79.trans (b3.trans b4))
          exact ⟨⟨_, _, _, _, _, rfl⟩, sX.trans sEnd, sEnd _ _ kZ, L2.Paired.mapP pI fun _ _ z => z.same sEnd⟩
      · obtain ⟨⟨x9, x10, x11, x12, x13, rfl⟩, sX, kZ, pI⟩ := pw
        exact q X ((p2.keep (s27.trans sX)).le (by omega)) (bd2.trans (But.same (s27.trans sX)))
end
end LA
end
section
set_option Elab.async false
set_option linter.all false
set_option maxRecDepth 100000
set_option maxHeartbeats 8100000
namespace LA
open PySem L2 XS XT LM XV XO XK ClX
abbrev sLaw : Stmt := top 45
abbrev nLaw : List Str := ["_law_script", "_law_pen_here", "_law_turn", "_law_signs_here", "_law_blocks", "_law_made", "_law_strange", "_law_more", "_law_twin", "_law_both"]
theorem scLaw : FnScope nLaw ["_law_script"] (defScope sLaw) := ⟨rfl, rfl, rfl, by decide +kernel, rfl, by decide +kernel, by decide +kernel⟩
def spLaw (K : PySem.W.Frag) : Sp := fun vs H Q _ => ∃ (a : Addr) (ns : List Int), vs = [.ref a] ∧ SqL K H a (ns.map V.int) ∧ ns.length ≤ 63 ∧ ∀ H', Q (.bl true) H'
section
variable {P : Program} {w : World} {K : PySem.W.Frag} {mg : Str → Option Value} {base : Heap} {C : Addr}
theorem ok_law {f fE fD fN pN fB pB fI fA aPN aFW aLB aRO aGR aLM aAP fCR fER pO fO : Addr} {mc : Value} {fd fdE fdD fdN fdB fdA dPN dFW dLB dRO dGR dLM dAP fdCR fdER : FuncData} (F : Fun K "law" "law" sLaw f fd) (G : LgF P w K mg base C fE fD fN pN fB pB fdE fdD fdN fdB) (GA : LgAt P w K mg base C fI fA fdA)
    (mR : mg "range" = none) (mM : mg "min" = none) (mL : mg "len" = none) (mRe : mg "repr" = none)
    (PN : CallOf P w K mg base 1 "_law_pen" ["_law_script"] (spPen K) aPN dPN) (FW : CallOf P w K mg base 3 "_law_few" ["_law_pen_here"] spFew aFW dFW) (LB : CallOf P w K mg base 4 "_law_lblocks" ["_law_pen_here", "_law_signs_here", "_law_most_blocks", "_law_tops"] spLB aLB dLB)
    (RO : CallOf P w K mg base 3 "_law_row" ["_law_pen_here", "_law_signs_here", "_law_least", "_law_most_letters"] spRow aRO dRO) (GR : CallOf P w K mg base 2 "_law_great" ["_law_pen_here", "_law_digits"] spGreat aGR dGR) (LM : CallOf P w K mg base 8 "_law_lmade" ["_law_blocks"] (spLM C) aLM dLM) (AP : CallOf P w K mg base 2 "_law_apart" ["_law_one", "_law_more"] spAp aAP dAP)
    (CR : AtG P w K mg base CX0 9 fCR fdCR ["_law_pen_here", "_law_blocks", "_law_made"] (spCR C)) (mCR : mg "_law_cut_right" = some (.ref fCR)) (kCR : PySem.W.keepIn K (.ref fCR) = true) (bCR : Binds K fdCR ["_law_pen_here", "_law_blocks", "_law_made"] [])
    (ER : AtG P w K mg base CX0 9 fER fdER ["_law_pen_here", "_law_blocks", "_law_made", "_law_strange"] (spER C)) (mER : mg "_law_exchanged_right" = some (.ref fER)) (kER : PySem.W.keepIn K (.ref fER) = true) (bER : Binds K fdER ["_law_pen_here", "_law_blocks", "_law_made", "_law_strange"] [])
    (OR : CRead K C mc) (OM : CMet K C mc "of" pO fO) (OF : FnR P w K mg base CX0 7 fO (spOf C)) : AtCaller P w K mg base CX0 20 f fd ["_law_script"] (spLaw K) := by
  refine atCaller F scLaw (fun vs H Q E h => ?_) (fun cdv outer s H vs Q E hr h => ?_)
  · obtain ⟨a, ns, rfl, _⟩ := h
    rfl
  · obtain ⟨a, ns, rfl, hS, hl, kk⟩ := h
    have hu6 := hr.units
    have hr9 : Room 9 _ := hr.mono (by decide)
    have hr8 : Room 8 _ := hr.mono (by decide)
    have hr7 : Room 7 _ := hr.mono (by decide)
    have hr6 : Room 6 _ := hr.mono (by decide)
    have hr4 : Room 4 _ := hr.mono (by decide)
    have hr3 : Room 3 _ := hr.mono (by decide)
    have hr2 : Room 2 _ := hr.mono (by decide)
    have hr1 : Room 1 _ := hr.mono (by decide)
    have quiet : (callerA.deeper (PyProof.Rows.envOfC "law" (defScope sLaw) s.heap.objs.size f cdv)).guards = some [] := rfl
    refine ⟨_, pss_cons (by exact (ps_set (i := 1) scLaw.nd rfl (.inl rfl) (pe_call PN.ok hr1 rfl PN.m PN.k PN.b .nil pass0 (pa_cons (pv 0) pa_nil))))
      (pss_cons (by exact (ps_for PassesOwn.never rfl (pi_range1 rfl mR (pa_cons (pe_op op_add pe_int (pe_callB (call_min2 rfl) (by rfl) mM (by decide +kernel) (pa_cons pe_int (pa_cons (pe_callB call_len_seq (by rfl) mL PySem.boot_len (pa_cons (pv 0) pa_nil)) pa_nil)))) pa_nil)) (by exact (pg_name (i := 2) scLaw.nd rfl (Or.inl rfl))) (pss_cons (by exact (ps_set (i := 3) scLaw.nd rfl (.inl rfl) (pe_call FW.ok hr3 rfl FW.m FW.k FW.b .nil pass0 (pa_cons (pv 1) pa_nil))))
      (pss_cons (by exact (ps_set (i := 4) scLaw.nd rfl (.inl rfl) (pe_call LB.ok hr4 rfl LB.m LB.k LB.b .nil pass0 (pa_cons (pv 1) (pa_cons (pv 3) (pa_cons pe_int (pa_cons (pe_lst (pa_cons pe_int (pa_cons pe_int (pa_cons pe_int (pa_cons pe_int (pa_cons (pe_op op_pow pe_int pe_int) (pa_cons (pe_op op_add pe_int (pe_call GR.ok hr2 rfl GR.m GR.k GR.b .nil pass0 (pa_cons (pv 1) (pa_cons pe_int pa_nil)))) (pa_cons (pe_op op_pow pe_int pe_int) pa_nil)))))))) pa_nil)))))))
      (pss_cons (by exact (ps_par (i := 5) (j := 6) (by rfl) scLaw.nd rfl rfl (by decide) rfl rfl (pa_cons (pe_call LM.ok hr8 rfl LM.m LM.k LM.b .nil pass0 (pa_cons (pv 4) pa_nil)) (pa_cons (pe_call RO.ok hr3 rfl RO.m RO.k RO.b .nil pass0 (pa_cons (pv 1) (pa_cons (pv 3) (pa_cons pe_int (pa_cons pe_int pa_nil))))) pa_nil)) (by rfl)))
      (pss_cons (by exact (ps_if (PW.pt (pw_or (pt_not (pt_val (pe_callG CR (by rfl) hr9 (by rfl) mCR kCR bCR pass0 (pa_cons (pv 1) (pa_cons (pv 4) (pa_cons (pv 5) pa_nil)))))) (pw_or1 (pt_not (pt_val (pe_callG CR (by rfl) hr9 (by rfl) mCR kCR bCR pass0 (pa_cons (pv 1) (pa_cons (pv 4) (pa_cons (pv 5) pa_nil))))))))) (pss_one (by exact (ps_ret pe_bl))) pss_nil))
      (pss_cons (by exact (ps_if (PW.pt (pw_and (pt_cmpR (op_neD hu6) (pv 4) (pe_lst pa_nil) (nomark _)) (pw_and1 (pt_not (pt_val (pe_callG ER (by rfl) hr9 (by rfl) mER kER bER pass0 (pa_cons (pv 1) (pa_cons (pv 4) (pa_cons (pv 5) (pa_cons (pv 6) pa_nil)))))))))) (pss_one (by exact (ps_ret pe_bl))) pss_nil))
      (pss_cons (by exact (ps_set (i := 7) scLaw.nd rfl (.inl rfl) (pe_call LB.ok hr4 rfl LB.m LB.k LB.b .nil pass0 (pa_cons (pv 1) (pa_cons (pv 3) (pa_cons pe_int (pa_cons (pe_lst (pa_cons pe_int (pa_cons pe_int (pa_cons pe_int (pa_cons (pe_op op_pow pe_int pe_int) pa_nil))))) pa_nil)))))))
      (pss_cons (by exact (ps_set (i := 8) scLaw.nd rfl (.inl rfl) (pe_call LM.ok hr8 rfl LM.m LM.k LM.b .nil pass0 (pa_cons (pv 7) pa_nil))))
      (pss_cons (by exact (ps_if (pt_cmpR op_ne (pe_callB (call_repr quiet hu6) (by rfl) mRe (by decide +kernel) (pa_cons (pe_meth (pv 5) G.k.cls G.dfM G.df hr3 G.dfB .nil pass0 (pa_cons (pv 8) pa_nil)) pa_nil)) (pe_callB (call_repr quiet hu6) (by rfl) mRe (by decide +kernel) (pa_cons (pe_call AP.ok hr2 rfl AP.m AP.k AP.b .nil pass0 (pa_cons (pv 4) (pa_cons (pv 7) pa_nil))) pa_nil)) (nomark _)) (pss_one (by exact (ps_ret pe_bl))) pss_nil))
      (pss_cons (by exact (ps_set (i := 9) scLaw.nd rfl (.inl rfl) (pe_op (op_ownA GA.add GA.at_ GA.fn GA.b pass0 hr7 GA.self) (pv 5) (pv 8))))
      (pss_cons (by exact (ps_if (PW.pt (pw_or (pt_not (pt_cmpR (op_own G.eq G.eqAt G.eqF G.eqB pass0 hr3) (pv 9) (pe_call LM.ok hr8 rfl LM.m LM.k LM.b .nil pass0 (pa_cons (pe_op op_cat (pv 4) (pv 7)) pa_nil)) (nomark _))) (pw_or1 (pt_cmpR op_ne (pe_prop (pv 9) G.k.cls G.lnP G.ln hr3 G.lnB .nil pass0 rfl) (pe_op op_add (pe_prop (pv 5) G.k.cls G.lnP G.ln hr3 G.lnB .nil pass0 rfl) (pe_prop (pv 8) G.k.cls G.lnP G.ln hr3 G.lnB .nil pass0 rfl)) (nomark _))))) (pss_one (by exact (ps_ret pe_bl))) pss_nil))
      (pss_one (by exact (ps_if (PW.pt (pw_or (pt_cmpR (op_own G.eq G.eqAt G.eqF G.eqB pass0 hr3) (pv 5) (pe_prop (pv 5) G.k.cls G.bkP G.bk hr2 G.bkB .nil pass0 rfl) (nomark _)) (pw_or (pt_cmpR (op_own G.eq G.eqAt G.eqF G.eqB pass0 hr3) (pv 5) pe_str (nomark _)) (pw_or1 (pt_cmpR (op_own G.eq G.eqAt G.eqF G.eqB pass0 hr3) (pv 5) (pe_prop (pv 5) G.k.cls G.lnP G.ln hr3 G.lnB .nil pass0 rfl) (nomark _)))))) (pss_one (by exact (ps_ret pe_bl))) pss_nil)))))))))))))))
      (pss_one (by exact (ps_ret (pe_and (pe_cmpR (op_own G.eq G.eqAt G.eqF G.eqB pass0 hr3) (pe_makeV GA.mak GA.ip hr6 rfl GA.nm pass0 (pa_cons (pe_tup (pa_cons (pe_lst (pa_cons pe_str (pa_cons pe_str pa_nil))) (pa_cons pe_int pa_nil))) pa_nil)) (pe_makeV GA.mak GA.ip hr6 rfl GA.nm pass0 (pa_cons (pe_tup (pa_cons (pe_lst (pa_cons pe_str pa_nil)) (pa_cons pe_int pa_nil))) pa_nil)) (nomark _)) (pe_one (pe_cmpR (op_own G.eq G.eqAt G.eqF G.eqB pass0 hr3) (pe_makeVK (tk := tNil) (ks := []) GA.mak GA.ip hr6 rfl GA.nm pass0 pk_nil) (pe_cmeth (pe_glob (v := .ref C) rfl GA.nm rfl) OR OM OF hr7 pass0 (pa_cons (pe_lst pa_nil) pa_nil)) (nomark _)))))))), ?_⟩
    refine ⟨_, rfl, a, ns, rfl, hS, hl, fun d c ms H1 pen1 sm1 nd nc => ?_⟩
    have hS1 := sm1.seq hS
    have h9 : (10 : Int) ^ (9 : Int).toNat = ((10 ^ 9 : Nat) : Int) := by decide +kernel
    have h30 : (10 : Int) ^ (30 : Int).toNat = ((10 ^ 30 : Nat) : Int) := by decide +kernel
    refine ⟨_, rfl, a, _, rfl, .inl hS1, _, _, rfl, _, _, rfl, rfl, _, rfl, ?_, ?_, for_range (lo := 0) (n := ((4 : Int) + (if (((ns.map V.int).length : Nat) : Int) < 6 then (((ns.map V.int).length : Nat) : Int) else 6)).toNat) (fun i σ X => (∃ x2 x3 x4 x5 x6 x7 x8 x9 : Option V, σ = [some (.ref a), some (.ref d), x2, x3, x4, x5, x6, x7, x8, x9]) ∧ PenAt X d c (1000 * i) ms) ⟨⟨_, _, _, _, _, _, _, _, rfl⟩, pen1.le (by omega)⟩ (fun i σ X hi pw => ?_) (fun σ X pw => ?_)⟩
    · split <;> omega
    · split <;> omega
    · obtain ⟨⟨x2, x3, x4, x5, x6, x7, x8, x9, rfl⟩, pX⟩ := pw
      have hi2 : i < 11 := by
        have h : ((4 : Int) + (if (((ns.map V.int).length : Nat) : Int) < 6 then (((ns.map V.int).length : Nat) : Int) else 6)) ≤ 10 := by split <;> omega
        omega
      refine ⟨_, rfl, d, c, 1000 * i, ms, rfl, pX, by omega, fun z H2 sz p2 b2 => ?_⟩
      refine ⟨_, rfl, _, rfl, _, _, rfl, rfl, ⟨by decide, by decide, by decide⟩, _, rfl, d, c, 1000 * i + 4, ms, 29, rfl, p2, by omega, by decide, fun g H3 hg p3 b3 => ⟨_, _, rfl, rfl, _, _, rfl, rfl, ⟨by decide, by decide, by decide⟩, (by show 7 ≤ sizeLine; decide), fun L nL => ?_⟩⟩
      have sL := same_upd (o := .lst [.int 1, .int 2, .int 3, .int 5, .int ((10 : Int) ^ (9 : Int).toNat), .int (1 + (g : Int)), .int ((10 : Int) ^ (30 : Int).toNat)]) nL
      have eL : ([.int 1, .int 2, .int 3, .int 5, .int ((10 : Int) ^ (9 : Int).toNat), .int (1 + (g : Int)), .int ((10 : Int) ^ (30 : Int).toNat)] : List V) = ([1, 2, 3, 5, 10 ^ 9, 1 + g, 10 ^ 30] : List Nat).map fun t : Nat => V.int (t : Int) := by
        rw [h9, h30, show (1 : Int) + (g : Int) = ((1 + g : Nat) : Int) by omega]
        rfl
      refine ⟨d, c, 1000 * i + 4 + 29, ms, z, 5, L, [1, 2, 3, 5, 10 ^ 9, 1 + g, 10 ^ 30], rfl, p3.keep sL, by omega, sz, by decide, by rw [upd_same, ← eL], List.cons_ne_nil _ _, (by show 7 ≤ 20; decide), fun t ht => ?_, fun p bs us H4 hp pr ok few p4 b4 => ?_⟩
      · have g29 : g < 10 ^ 29 := hg
        simp only [List.mem_cons, List.not_mem_nil, or_false] at ht
        rcases ht with rfl | rfl | rfl | rfl | rfl | rfl | rfl
        · decide
        · decide
        · decide
        · decide
        · decide
        · have : (10 : Nat) ^ 29 < 10 ^ 30 := by decide
          omega
        · decide
      have vb : ∀ b ∈ bs, Vb b := fun b hb => (ok b hb).v
      have rb : Rb bs := ⟨vb, by omega⟩
      have hB : LBs H4 p bs := ⟨us, hp, pr⟩
      refine ⟨_, rfl, p, us, bs, rfl, hp, pr, vb, by omega, fun v H5 lt s5 => ⟨_, rfl, _, rfl, d, c, 1000 * i + 4 + 29 + 50, ms, z, 0, 2, rfl, p4.keep s5, by omega, by have := sz.two; omega, by have := sz.three; omega, by decide, by decide, fun y H6 my y0 y2 p6 b6 => ⟨_, _, rfl, ?_⟩⟩⟩
      have p45 := p4.keep s5
      have hB6 := (hB.same s5).pen p45 b6
      have lt6 := LT.but p45 b6 lt
      have sy : Sm z y := ⟨my, by omega⟩
      refine ⟨_, rfl, _, rfl, _, rfl, d, c, 1000 * i + 4 + 29 + 50 + 1 + 2, ms, p, v, bs, rfl, p6, by omega, hB6, lt6, vb, few, fun H7 p7 b7 => ⟨_, rfl, iteF ?_⟩⟩
      have hB7 := hB6.pen p6 b7
      have lt7 := LT.but p6 b7 lt6
      refine ⟨_, rfl, _, rfl, _, rfl, d, c, 1000 * i + 4 + 29 + 50 + 1 + 2 + 200, ms, p, v, bs, rfl, p7, by omega, hB7, lt7, vb, few, fun H8 p8 b8 => ⟨_, rfl, iteF ?_⟩⟩
      have hB8 := hB7.pen p7 b8
      have lt8 := LT.but p7 b8 lt7
      refine ⟨_, rfl, (by show 0 ≤ sizeLine; decide), fun E0 nE => ?_⟩
      have sE := same_upd (o := .lst []) nE
      have hB9 := hB8.same sE
      have lt9 := lt8.same sE
      have p9 := p8.keep sE
      refine ⟨_, _, hB9.dp, dp_nil upd_same, shaped_bks bs vb, shaped_nil, _, rfl, ?_⟩
      rw [eqv_nil]
      by_cases e0 : bs = []
      case' pos =>
        rw [decide_eq_true e0]
        refine iteF (iteF ?_)
        have pA : PenAt (upd H8 E0 (.lst [])) d c (1000 * i + 600) ms := p9.le (by omega)
        have hBA := hB9
        have ltA := lt9
        generalize upd H8 E0 (.lst []) = XA at pA hBA ltA ⊢
      case' neg =>
        rw [decide_eq_false e0]
        refine iteT ⟨_, rfl, _, rfl, _, rfl, _, rfl, d, c, 1000 * i + 4 + 29 + 50 + 1 + 2 + 200 + 200, ms, p, v, y, z, bs, rfl, p9, by omega, hB9, lt9, ok, sz, sy, e0, few, fun XA pA0 bA => ⟨_, rfl, iteF ?_⟩⟩
        have pA : PenAt XA d c (1000 * i + 600) ms := pA0.le (by omega)
        have hBA := hB9.pen p9 bA
        have ltA := LT.but p9 bA lt9
      all_goals
        refine ⟨_, rfl, _, rfl, _, _, rfl, rfl, ⟨by decide, by decide, by decide⟩, (by show 4 ≤ sizeLine; decide), fun L3 nL3 => ?_⟩
        have sL3 := same_upd (o := .lst [.int 1, .int 2, .int 6, .int ((10 : Int) ^ (9 : Int).toNat)]) nL3
        have eL3 : ([.int 1, .int 2, .int 6, .int ((10 : Int) ^ (9 : Int).toNat)] : List V) = ([1, 2, 6, 10 ^ 9] : List Nat).map fun t : Nat => V.int (t : Int) := by
          rw [h9]
          rfl
        have pA3 := pA.keep sL3
        have hBA3 := hBA.same sL3
        have ltA3 := ltA.same sL3
        refine ⟨d, c, 1000 * i + 600, ms, z, 3, L3, [1, 2, 6, 10 ^ 9], rfl, pA3, by omega, sz, by decide, by rw [upd_same, ← eL3], by decide, (by show 4 ≤ 20; decide), fun t ht => ?_, fun q cs uq HB hq prq okq fewq pB bB => ?_⟩
        · simp only [List.mem_cons, List.not_mem_nil, or_false] at ht
          rcases ht with rfl | rfl | rfl | rfl <;> decide
        have vc : ∀ b ∈ cs, Vb b := fun b hb => (okq b hb).v
        have rc : Rb cs := ⟨vc, by omega⟩
        have hBB := hBA3.pen pA3 bB
        have ltB := LT.but pA3 bB ltA3
        have hCB : LBs HB q cs := ⟨uq, hq, prq⟩
        refine ⟨_, rfl, q, uq, cs, rfl, hq, prq, vc, by omega, fun tw HC lz sC => ?_⟩
        have lm := ltB.same sC
        have hBC := hBB.same sC
        have hCC := hCB.same sC
        have pC := pB.keep sC
        obtain ⟨am, dm, tm, um, rfl, hm, htm, _⟩ := id lm
        obtain ⟨az, dz, tz, uz, rfl, hz, _⟩ := id lz
        refine ⟨_, rfl, am, dm, _, rfl, hm, rfl, _, rfl, bs, cs, _, _, rfl, lm, lz, rb, rc, fun r5 Z5 i5 t5 => ?_⟩
        have bnd := isU_small vb vc (by omega) (by omega) i5
        refine ⟨_, _, rfl, .dp (dp_un (upN r5)), shows_un _ bnd, _, rfl, _, rfl, p, q, bs, cs, rfl, hBC.same t5, hCC.same t5, vb, vc, by omega, by omega, fun r6 Z6 i6 t6 => ?_⟩
        rw [i6.eq i5]
        refine ⟨_, _, rfl, .dp (dp_un (upN r5)), shows_un _ bnd, rfl, _, rfl, ?_⟩
        rw [decide_eq_true rfl]
        refine iteF ?_
        have t56 := t5.trans t6
        refine ⟨_, rfl, _, rfl, am, dm, _, az, dz, _, rfl, rfl, t56 _ _ hm, t56 _ _ hz, bs, cs, _, _, rfl, lm.same t56, lz.same t56, by omega, fun bo Z7 lo t7 => ?_⟩
        have t57 := t56.trans t7
        obtain ⟨ub, kb, pb⟩ := (hBC.same t57).ex
        obtain ⟨uc, kc, pc⟩ := (hCC.same t57).ex
        refine ⟨_, rfl, _, rfl, _, rfl, p, q, ub, uc, rfl, rfl, kb, kc, ?_, fun M nM => ?_⟩
        · rw [← pair_len pb, ← pair_len pc]
          exact Nat.le_trans (by omega) (by decide : 10 ≤ sizeLine)
        have sM := same_upd (o := .lst (ub ++ uc)) nM
        have vbc : ∀ b ∈ bs ++ cs, Vb b := fun b hb => by
          rcases List.mem_append.mp hb with h | h
          · exact vb b h
          · exact vc b h
        have rbc : Rb (bs ++ cs) := ⟨vbc, by rw [List.length_append]; omega⟩
        refine ⟨M, _, bs ++ cs, rfl, upd_same, pair_app (bkL_same sM pb) (bkL_same sM pc), vbc, rbc.few, fun w8 Z8 l8 t8 => ?_⟩
        have t78 := sM.trans t8
        have lo8 := lo.same t78
        refine eq_read G.k G.n0 lo8 l8 rbc rbc fun r9 Z9 i9 t9 => ⟨_, rfl, ?_⟩
        rw [i9.eq (s := none) rfl]
        refine iteF ?_
        have t79 := t78.trans t9
        have t59 := t57.trans t79
        have lo9 := lo8.same t9
        obtain ⟨ao, do_, to, uo, rfl, ho, _⟩ := id lo9
        refine ⟨_, rfl, ao, do_, _, rfl, ho, bs ++ cs, _, rfl, lo9, rbc, fun Z10 t10 => ?_⟩
        have t510 := t59.trans t10
        refine ⟨_, rfl, am, dm, _, rfl, t510 _ _ hm, bs, _, rfl, lm.same t510, rb, fun Z11 t11 => ?_⟩
        have t511 := t510.trans t11
        refine ⟨_, rfl, az, dz, _, rfl, t511 _ _ hz, cs, _, rfl, lz.same t511, rc, fun Z12 t12 => ⟨_, _, rfl, rfl, rfl, _, rfl, ?_⟩⟩
        have t512 := t511.trans t12
        rw [decide_eq_true (show V.int ((wr (bs ++ cs)).length : Int) = V.int (((wr bs).length : Int) + ((wr cs).length : Int)) from congrArg V.int (by rw [wr_app, List.length_append]; omega))]
        refine iteF ?_
        have hm2 := t512 _ _ hm
        have lm2 := lm.same t512
        refine ⟨_, rfl, _, rfl, am, dm, _, rfl, hm2, am, dm, _, rfl, hm2, eq_other lm2 (.base (.tup (t512 _ _ htm))) G.nT G.kT ⟨_, rfl, iteF ?_⟩⟩
        refine ⟨_, rfl, ?_⟩
        dsimp only [tC]
        refine eq_other (y := .str "a") lm2 (.base (.str _)) G.nS G.kS ?_
        refine ⟨_, rfl, iteF ?_⟩
        refine ⟨_, rfl, _, rfl, am, dm, _, rfl, hm2, bs, _, rfl, lm2, rb, fun Z13 t13 => ?_⟩
        refine eq_other (lm2.same t13) (.base (.int _)) G.nI G.kI ⟨_, rfl, iteF ?_⟩
        exact ⟨⟨_, _, _, _, _, _, _, _, rfl⟩, (pC.keep (t512.trans t13)).le (by omega)⟩
    · obtain ⟨⟨x2, x3, x4, x5, x6, x7, x8, x9, rfl⟩, pX⟩ := pw
      have la : lineB "a" = true := by decide +kernel
      have va : ∀ (xs : List Str) (t : Nat), 1 ≤ xs.length → xs.length ≤ 4 → 1 ≤ t → t ≤ 10 ^ 30 → (∀ x ∈ xs, x = "a") → Vb ((xs, t) : Bk Str) := fun xs t h1 h2 h3 h4 h5 => ⟨h1, h2, h3, h4, fun z hz => by rw [h5 z hz]; exact ⟨la, by decide +kernel⟩⟩
      have v1 : Vb ((["a", "a"], 3) : Bk Str) := va _ _ (by decide) (by decide) (by decide) (by decide) fun x hx => by
        rcases List.mem_cons.mp hx with h | h
        · exact h
        · exact List.mem_singleton.mp h
      have v2 : Vb ((["a"], 6) : Bk Str) := va _ _ (by decide) (by decide) (by decide) (by decide) fun x hx => List.mem_singleton.mp hx
      have f1 : ∀ b ∈ [((["a", "a"], 3) : Bk Str)], Vb b := fun b hb => by rw [List.mem_singleton] at hb; exact hb ▸ v1
      have f2 : ∀ b ∈ [((["a"], 6) : Bk Str)], Vb b := fun b hb => by rw [List.mem_singleton] at hb; exact hb ▸ v2
      refine ⟨(by show 2 ≤ sizeLine; decide), fun a1 n1 => ⟨(by show 2 ≤ sizeLine; decide), fun t1 m1 => ⟨rfl, fun x1 d1 nx nd' ne => ?_⟩⟩⟩
      have b1 : BkL (upd (upd X a1 (.lst [.str "a", .str "a"])) t1 (.tup [.ref a1, .int 3])) ((["a", "a"], 3) : Bk Str) (.ref t1) := ⟨t1, a1, rfl, upd_same, same_upd m1 _ _ upd_same⟩
      refine init_ip (bs := [(["a", "a"], 3)]) (.cons b1 .nil) f1 (by show 1 ≤ 10; decide) nx nd' ne fun H1' l1 s1 => ⟨rfl, ?_⟩
      refine ⟨(by show 1 ≤ sizeLine; decide), fun a2 n2 => ⟨(by show 2 ≤ sizeLine; decide), fun t2 m2 => ⟨rfl, fun x2' d2 nx2 nd2 ne2 => ?_⟩⟩⟩
      have q1 := same_upd (o := .lst [.str "a"]) n2
      have q2 := same_upd (o := .tup [.ref a2, .int 6]) m2
      have b2 : BkL (upd (upd H1' a2 (.lst [.str "a"])) t2 (.tup [.ref a2, .int 6])) ((["a"], 6) : Bk Str) (.ref t2) := ⟨t2, a2, rfl, upd_same, same_upd m2 _ _ upd_same⟩
      refine init_ip (bs := [(["a"], 6)]) (.cons b2 .nil) f2 (by show 1 ≤ 10; decide) nx2 nd2 ne2 fun H2' l2 s2 => ⟨rfl, ?_⟩
      refine eq_read G.k G.n0 (l1.same ((q1.trans q2).trans s2)) l2 ⟨f1, by show 1 ≤ 100; decide⟩ ⟨f2, by show 1 ≤ 100; decide⟩ fun r Z iu t => ?_
      rw [iu.eq (s := none) (by show wr _ = wr _; rfl)]
      refine ⟨_, rfl, iteT ?_⟩
      refine ⟨rfl, fun x3' d3 nx3 nd3 ne3 => init_ip (bs := []) .nil (fun _ h => absurd h List.not_mem_nil) (by decide) nx3 nd3 ne3 fun H3' l3 s3 => ⟨rfl, ?_⟩⟩
      refine ⟨rfl, (by show 0 ≤ sizeLine; decide), fun L nL => ⟨L, rfl, upd_same, fun zz Z4 l4 s4 => ?_⟩⟩
      have rn : Rb [] := ⟨fun _ h => absurd h List.not_mem_nil, by show 0 ≤ 100; decide⟩
      refine eq_read G.k G.n0 (l3.same ((same_upd nL).trans s4)) l4 rn rn fun r2 Z5 iu2 t2' => ?_
      rw [iu2.eq (s := none) rfl]
      exact kk _
end
end LA
end
section
set_option Elab.async false
set_option linter.all false
set_option maxRecDepth 100000
set_option maxHeartbeats 8000000
namespace LA
open PySem PySem.W L2 XS XT XK XO XV LM ClX
/-- a def at an address, as the row tells it -/
structure FnF (K : Frag) (x qual : Str) (st : Stmt) (f : Addr) : Prop where
  ex : ∃ (oc : Value) (od : Option Addr) (kV doc pm : Value) (an : Option Addr) (cdv ct : Value) (osl : Array (Option Value)), K.lookup f = some ⟨oc, od, .func (fnOf x qual (defArgs st) (defBody st) (defScope st) .none kV doc pm an cdv ct), osl⟩ ∧ codeIn K cdv qual = true
theorem fnF_mk {K : Frag} {x qual : Str} {st : Stmt} {f : Addr} {oc : Value} {od : Option Addr} {kV doc pm : Value} {an : Option Addr} {cdv ct : Value} {osl : Array (Option Value)} (l : K.lookup f = some ⟨oc, od, .func (fnOf x qual (defArgs st) (defBody st) (defScope st) .none kV doc pm an cdv ct), osl⟩) (c : codeIn K cdv qual = true) : FnF K x qual st f :=
  ⟨⟨oc, od, kV, doc, pm, an, cdv, ct, osl, l, c⟩⟩
theorem funV_mk {K : Frag} {f D : Addr} {oc : Value} {od : Option Addr} {doc pm : Value} {an : Option Addr} {cdv ct : Value} {osl : Array (Option Value)} (l : K.lookup f = some ⟨oc, od, .func (fnOf "__init__" "LongText.__init__" (defArgs sLI) (defBody sLI) (defScope sLI) .none (.ref D) doc pm an cdv ct), osl⟩) (c : codeIn K cdv "LongText.__init__" = true) (d : nsIn K D "_blocks" = some (some .none)) : FunV K f D :=
  ⟨⟨oc, od, doc, pm, an, cdv, ct, osl, l, c⟩, d⟩
theorem propF_mk {K : Frag} {C p g : Addr} {nm : Str} {rest : List Value} (a : findIn K (.ref C) nm = some (some (.ref p))) (b : specialIn K (.ref p) "__get__" = some (some (.builtin "property.__get__"))) (c : takesIn K (.ref p) = some true) (d : recIn K p "property" = some (.ref g :: rest)) : PropOf K C nm p g := ⟨a, b, c, ⟨rest, d⟩⟩
theorem cmet_mk {K : Frag} {C p g : Addr} {mc : Value} {m : Str} {rest : List Value} (a : findCls K (.ref C) mc m = some (.get (.builtin "classmethod.__get__") (.ref p) .none (.ref C))) (b : recIn K p "classmethod" = some (.ref g :: rest)) (c : fnIn K g = true) : CMet K C mc m p g := ⟨a, ⟨rest, b⟩, c⟩
theorem all_mk {P : Program} {w : World} {K : Frag} {h : Heap} {mg : Str → Option Value} {fa a_pen a_draw a_pick a_gr a_sgn a_few a_row a_lb a_lm a_lw a_ls a_ll a_sp a_ra a_ap a_cr a_er a_law a_le a_li a_tx a_ck a_ii a_cn a_bk a_lo a_fu a_un a_en a_mA a_mE a_mD a_mN a_mB a_mO C fI D pN pB pO : Addr} {t0 t1 t2 t3 t4 t5 : Tok} (X : K.In h) (G : h.Ns mainGlobals mg) (hfa : mg "law" = some (.ref fa))
    (g_pen : nsIn K mainGlobals "_law_pen" = some (some (.ref a_pen)))
    (f_pen : FnF K "_law_pen" "_law_pen" sPen a_pen)
    (k_pen : keepIn K (.ref a_pen) = true)
    (g_draw : nsIn K mainGlobals "_law_draw" = some (some (.ref a_draw)))
    (f_draw : FnF K "_law_draw" "_law_draw" sDraw a_draw)
    (k_draw : keepIn K (.ref a_draw) = true)
    (g_pick : nsIn K mainGlobals "_law_pick" = some (some (.ref a_pick)))
    (f_pick : FnF K "_law_pick" "_law_pick" sPick a_pick)
    (k_pick : keepIn K (.ref a_pick) = true)
    (g_gr : nsIn K mainGlobals "_law_great" = some (some (.ref a_gr)))
    (f_gr : FnF K "_law_great" "_law_great" sGreat a_gr)
    (k_gr : keepIn K (.ref a_gr) = true)
    (g_sgn : nsIn K mainGlobals "_law_signs" = some (some (.ref a_sgn)))
    (f_sgn : FnF K "_law_signs" "_law_signs" sSigns a_sgn)
    (k_sgn : keepIn K (.ref a_sgn) = true)
    (g_few : nsIn K mainGlobals "_law_few" = some (some (.ref a_few)))
    (f_few : FnF K "_law_few" "_law_few" sFew a_few)
    (k_few : keepIn K (.ref a_few) = true)
    (g_row : nsIn K mainGlobals "_law_row" = some (some (.ref a_row)))
    (f_row : FnF K "_law_row" "_law_row" sRow a_row)
    (k_row : keepIn K (.ref a_row) = true)
    (g_lb : nsIn K mainGlobals "_law_lblocks" = some (some (.ref a_lb)))
    (f_lb : FnF K "_law_lblocks" "_law_lblocks" sLB a_lb)
    (k_lb : keepIn K (.ref a_lb) = true)
    (g_lm : nsIn K mainGlobals "_law_lmade" = some (some (.ref a_lm)))
    (f_lm : FnF K "_law_lmade" "_law_lmade" sLM a_lm)
    (k_lm : keepIn K (.ref a_lm) = true)
    (g_lw : nsIn K mainGlobals "_law_lwritten" = some (some (.ref a_lw)))
    (f_lw : FnF K "_law_lwritten" "_law_lwritten" sLW a_lw)
    (k_lw : keepIn K (.ref a_lw) = true)
    (g_ls : nsIn K mainGlobals "_law_lsize" = some (some (.ref a_ls)))
    (f_ls : FnF K "_law_lsize" "_law_lsize" sLS a_ls)
    (k_ls : keepIn K (.ref a_ls) = true)
    (g_ll : nsIn K mainGlobals "_law_lline" = some (some (.ref a_ll)))
    (f_ll : FnF K "_law_lline" "_law_lline" sLL a_ll)
    (k_ll : keepIn K (.ref a_ll) = true)
    (g_sp : nsIn K mainGlobals "_law_lsplit" = some (some (.ref a_sp)))
    (f_sp : FnF K "_law_lsplit" "_law_lsplit" sSpl a_sp)
    (k_sp : keepIn K (.ref a_sp) = true)
    (g_ra : nsIn K mainGlobals "_law_rows_at" = some (some (.ref a_ra)))
    (f_ra : FnF K "_law_rows_at" "_law_rows_at" sRA a_ra)
    (k_ra : keepIn K (.ref a_ra) = true)
    (g_ap : nsIn K mainGlobals "_law_apart" = some (some (.ref a_ap)))
    (f_ap : FnF K "_law_apart" "_law_apart" sAp a_ap)
    (k_ap : keepIn K (.ref a_ap) = true)
    (g_cr : nsIn K mainGlobals "_law_cut_right" = some (some (.ref a_cr)))
    (f_cr : FnF K "_law_cut_right" "_law_cut_right" sCR a_cr)
    (k_cr : keepIn K (.ref a_cr) = true)
    (g_er : nsIn K mainGlobals "_law_exchanged_right" = some (some (.ref a_er)))
    (f_er : FnF K "_law_exchanged_right" "_law_exchanged_right" sER a_er)
    (k_er : keepIn K (.ref a_er) = true)
    (g_law : nsIn K mainGlobals "law" = some (some (.ref a_law)))
    (f_law : FnF K "law" "law" sLaw a_law)
    (k_law : keepIn K (.ref a_law) = true)
    (g_le : nsIn K mainGlobals "is_letter" = some (some (.ref a_le)))
    (f_le : FnF K "is_letter" "is_letter" sLetter a_le)
    (k_le : keepIn K (.ref a_le) = true)
    (g_li : nsIn K mainGlobals "is_line" = some (some (.ref a_li)))
    (f_li : FnF K "is_line" "is_line" sLine a_li)
    (k_li : keepIn K (.ref a_li) = true)
    (g_tx : nsIn K mainGlobals "is_text" = some (some (.ref a_tx)))
    (f_tx : FnF K "is_text" "is_text" sIsText a_tx)
    (k_tx : keepIn K (.ref a_tx) = true)
    (g_ck : nsIn K mainGlobals "check_text" = some (some (.ref a_ck)))
    (f_ck : FnF K "check_text" "check_text" sChkT a_ck)
    (k_ck : keepIn K (.ref a_ck) = true)
    (g_ii : nsIn K mainGlobals "is_integer" = some (some (.ref a_ii)))
    (f_ii : FnF K "is_integer" "is_integer" sIsInt a_ii)
    (k_ii : keepIn K (.ref a_ii) = true)
    (g_cn : nsIn K mainGlobals "is_counting" = some (some (.ref a_cn)))
    (f_cn : FnF K "is_counting" "is_counting" sCounting a_cn)
    (k_cn : keepIn K (.ref a_cn) = true)
    (g_bk : nsIn K mainGlobals "is_block" = some (some (.ref a_bk)))
    (f_bk : FnF K "is_block" "is_block" sIsBlock a_bk)
    (k_bk : keepIn K (.ref a_bk) = true)
    (g_lo : nsIn K mainGlobals "length_of" = some (some (.ref a_lo)))
    (f_lo : FnF K "length_of" "length_of" sLenOf a_lo)
    (k_lo : keepIn K (.ref a_lo) = true)
    (g_fu : nsIn K mainGlobals "first_unlike" = some (some (.ref a_fu)))
    (f_fu : FnF K "first_unlike" "first_unlike" sFU a_fu)
    (k_fu : keepIn K (.ref a_fu) = true)
    (g_un : nsIn K mainGlobals "unlike_index" = some (some (.ref a_un)))
    (f_un : FnF K "unlike_index" "unlike_index" sUn a_un)
    (k_un : keepIn K (.ref a_un) = true)
    (g_en : nsIn K mainGlobals "block_ends" = some (some (.ref a_en)))
    (f_en : FnF K "block_ends" "block_ends" sEnds a_en)
    (k_en : keepIn K (.ref a_en) = true)
    (gC : nsIn K mainGlobals "LongText" = some (some (.ref C)))
    (clC : Cls K C)
    (mkC : Mk K C fI)
    (ini : FunV K fI D)
    (noC : NoAttr K C "_blocks")
    (caC : findIn K (.ref C) "__class__" = some (some (.builtin "object.__class__")))
    (cget : specialIn K (.builtin "object.__class__") "__get__" = some (some (.builtin "getset_descriptor.__get__")))
    (ctak : takesIn K (.builtin "object.__class__") = some true)
    (obC : mroIn K C (.type "object") = some true)
    (ktC : kitOne K (.ref C) (.ref C) = some true)
    (atA : findIn K (.ref C) "__add__" = some (some (.ref a_mA)))
    (fnA : isFn K (.ref a_mA) = true)
    (kA : keepIn K (.ref a_mA) = true)
    (sfC : selfFirst K C = true)
    (atE : findIn K (.ref C) "__eq__" = some (some (.ref a_mE)))
    (fnE : isFn K (.ref a_mE) = true)
    (kE : keepIn K (.ref a_mE) = true)
    (neC : findIn K (.ref C) "__ne__" = some (some (.builtin "object.__ne__")))
    (nf0 : notFirst K C (.ref C) = true)
    (nfT : notFirst K C (.type "tuple") = true)
    (nfS : notFirst K C (.type "str") = true)
    (nfI : notFirst K C (.type "int") = true)
    (kT : kitOne K (.type "tuple") (.ref C) = some false)
    (kS : kitOne K (.type "str") (.ref C) = some false)
    (kI : kitOne K (.type "int") (.ref C) = some false)
    (meD : Meth K C "difference" a_mD)
    (prN : PropOf K C "length" pN a_mN)
    (kN : keepIn K (.ref a_mN) = true)
    (prB : PropOf K C "blocks" pB a_mB)
    (kB : keepIn K (.ref a_mB) = true)
    (rdC : readsIn K C (.type "type") = true)
    (gaC : specialIn K (.ref C) "__getattribute__" = some (some (.builtin "type.__getattribute__")))
    (ofC : CMet K C (.type "type") "of" pO a_mO)
    (kO : keepIn K (.ref a_mO) = true)
    (f_mA : FnF K "__add__" "LongText.__add__" sLadd a_mA)
    (f_mE : FnF K "__eq__" "LongText.__eq__" sLeq a_mE)
    (f_mD : FnF K "difference" "LongText.difference" sLdif a_mD)
    (f_mN : FnF K "length" "LongText.length" sLlen a_mN)
    (f_mB : FnF K "blocks" "LongText.blocks" sLblk a_mB)
    (f_mO : FnF K "of" "LongText.of" sLof a_mO)
    (z_len : nsIn K mainGlobals "len" = some none)
    (z_int : nsIn K mainGlobals "int" = some none)
    (z_list : nsIn K mainGlobals "list" = some none)
    (z_abs : nsIn K mainGlobals "abs" = some none)
    (z_range : nsIn K mainGlobals "range" = some none)
    (z_set : nsIn K mainGlobals "set" = some none)
    (z_all : nsIn K mainGlobals "all" = some none)
    (z_ord : nsIn K mainGlobals "ord" = some none)
    (z_isinstance : nsIn K mainGlobals "isinstance" = some none)
    (z_str : nsIn K mainGlobals "str" = some none)
    (z_sum : nsIn K mainGlobals "sum" = some none)
    (z_sorted : nsIn K mainGlobals "sorted" = some none)
    (z_min : nsIn K mainGlobals "min" = some none)
    (z_tuple : nsIn K mainGlobals "tuple" = some none)
    (z_enumerate : nsIn K mainGlobals "enumerate" = some none)
    (z_bool : nsIn K mainGlobals "bool" = some none)
    (z_repr : nsIn K mainGlobals "repr" = some none)
    (y0 : nsIn K mainGlobals "FIRST_LETTER" = some (some (.int 32 t0)))
    (y1 : nsIn K mainGlobals "LAST_LETTER" = some (some (.int 126 t1)))
    (y2 : nsIn K mainGlobals "PERCENT_SIGN" = some (some (.int 37 t2)))
    (y3 : nsIn K mainGlobals "MAX_BLOCKS" = some (some (.int 10 t3)))
    (y4 : nsIn K mainGlobals "MAX_LINES" = some (some (.int 4 t4)))
    (y5 : nsIn K mainGlobals "MAX_TIMES" = some (some (.int (10 ^ 30) t5))) :
    ∃ fd : FuncData, (∀ (s : Shared) (v : Value), BindsTo s fd ⟨[v], []⟩ [("_law_script", v)]) ∧ ∀ base : Heap, K.In base → base.Ns mainGlobals mg → AtCaller P w K mg base CX0 20 fa fd ["_law_script"] (spLaw K) := by
  have e := hfa.symm.trans (mg_of X G g_law)
  cases e
  obtain ⟨oc_pen, od_pen, kV_pen, dc_pen, pm_pen, an_pen, cd_pen, ct_pen, sl_pen, l_pen, c_pen⟩ := f_pen.ex
  have F_pen := fun_mk (st := sPen) l_pen c_pen k_pen
  have b_pen := F_pen.binds (ps := ["_law_script"]) fun _ _ _ _ _ _ us hl => match us, hl with | [_], _ => rfl
  obtain ⟨oc_draw, od_draw, kV_draw, dc_draw, pm_draw, an_draw, cd_draw, ct_draw, sl_draw, l_draw, c_draw⟩ := f_draw.ex
  have F_draw := fun_mk (st := sDraw) l_draw c_draw k_draw
  have b_draw := F_draw.binds (ps := ["_law_pen_here", "_law_span"]) fun _ _ _ _ _ _ us hl => match us, hl with | [_, _], _ => rfl
  obtain ⟨oc_pick, od_pick, kV_pick, dc_pick, pm_pick, an_pick, cd_pick, ct_pick, sl_pick, l_pick, c_pick⟩ := f_pick.ex
  have F_pick := fun_mk (st := sPick) l_pick c_pick k_pick
  have b_pick := F_pick.binds (ps := ["_law_pen_here", "_law_options"]) fun _ _ _ _ _ _ us hl => match us, hl with | [_, _], _ => rfl
  obtain ⟨oc_gr, od_gr, kV_gr, dc_gr, pm_gr, an_gr, cd_gr, ct_gr, sl_gr, l_gr, c_gr⟩ := f_gr.ex
  have F_gr := fun_mk (st := sGreat) l_gr c_gr k_gr
  have b_gr := F_gr.binds (ps := ["_law_pen_here", "_law_digits"]) fun _ _ _ _ _ _ us hl => match us, hl with | [_, _], _ => rfl
  obtain ⟨oc_sgn, od_sgn, kV_sgn, dc_sgn, pm_sgn, an_sgn, cd_sgn, ct_sgn, sl_sgn, l_sgn, c_sgn⟩ := f_sgn.ex
  have F_sgn := fun_mk (st := sSigns) l_sgn c_sgn k_sgn
  obtain ⟨oc_few, od_few, kV_few, dc_few, pm_few, an_few, cd_few, ct_few, sl_few, l_few, c_few⟩ := f_few.ex
  have F_few := fun_mk (st := sFew) l_few c_few k_few
  have b_few := F_few.binds (ps := ["_law_pen_here"]) fun _ _ _ _ _ _ us hl => match us, hl with | [_], _ => rfl
  obtain ⟨oc_row, od_row, kV_row, dc_row, pm_row, an_row, cd_row, ct_row, sl_row, l_row, c_row⟩ := f_row.ex
  have F_row := fun_mk (st := sRow) l_row c_row k_row
  have b_row := F_row.binds (ps := ["_law_pen_here", "_law_signs_here", "_law_least", "_law_most_letters"]) fun _ _ _ _ _ _ us hl => match us, hl with | [_, _, _, _], _ => rfl
  obtain ⟨oc_lb, od_lb, kV_lb, dc_lb, pm_lb, an_lb, cd_lb, ct_lb, sl_lb, l_lb, c_lb⟩ := f_lb.ex
  have F_lb := fun_mk (st := sLB) l_lb c_lb k_lb
  have b_lb := F_lb.binds (ps := ["_law_pen_here", "_law_signs_here", "_law_most_blocks", "_law_tops"]) fun _ _ _ _ _ _ us hl => match us, hl with | [_, _, _, _], _ => rfl
  obtain ⟨oc_lm, od_lm, kV_lm, dc_lm, pm_lm, an_lm, cd_lm, ct_lm, sl_lm, l_lm, c_lm⟩ := f_lm.ex
  have F_lm := fun_mk (st := sLM) l_lm c_lm k_lm
  have b_lm := F_lm.binds (ps := ["_law_blocks"]) fun _ _ _ _ _ _ us hl => match us, hl with | [_], _ => rfl
  obtain ⟨oc_lw, od_lw, kV_lw, dc_lw, pm_lw, an_lw, cd_lw, ct_lw, sl_lw, l_lw, c_lw⟩ := f_lw.ex
  have F_lw := fun_mk (st := sLW) l_lw c_lw k_lw
  have b_lw := F_lw.binds (ps := ["_law_blocks"]) fun _ _ _ _ _ _ us hl => match us, hl with | [_], _ => rfl
  obtain ⟨oc_ls, od_ls, kV_ls, dc_ls, pm_ls, an_ls, cd_ls, ct_ls, sl_ls, l_ls, c_ls⟩ := f_ls.ex
  have F_ls := fun_mk (st := sLS) l_ls c_ls k_ls
  have b_ls := F_ls.binds (ps := ["_law_blocks"]) fun _ _ _ _ _ _ us hl => match us, hl with | [_], _ => rfl
  obtain ⟨oc_ll, od_ll, kV_ll, dc_ll, pm_ll, an_ll, cd_ll, ct_ll, sl_ll, l_ll, c_ll⟩ := f_ll.ex
  have F_ll := fun_mk (st := sLL) l_ll c_ll k_ll
  have b_ll := F_ll.binds (ps := ["_law_blocks", "_law_slot"]) fun _ _ _ _ _ _ us hl => match us, hl with | [_, _], _ => rfl
  obtain ⟨oc_sp, od_sp, kV_sp, dc_sp, pm_sp, an_sp, cd_sp, ct_sp, sl_sp, l_sp, c_sp⟩ := f_sp.ex
  have F_sp := fun_mk (st := sSpl) l_sp c_sp k_sp
  have b_sp := F_sp.binds (ps := ["_law_pen_here", "_law_one"]) fun _ _ _ _ _ _ us hl => match us, hl with | [_, _], _ => rfl
  obtain ⟨oc_ra, od_ra, kV_ra, dc_ra, pm_ra, an_ra, cd_ra, ct_ra, sl_ra, l_ra, c_ra⟩ := f_ra.ex
  have F_ra := fun_mk (st := sRA) l_ra c_ra k_ra
  have b_ra := F_ra.binds (ps := ["_law_blocks", "_law_spots"]) fun _ _ _ _ _ _ us hl => match us, hl with | [_, _], _ => rfl
  obtain ⟨oc_ap, od_ap, kV_ap, dc_ap, pm_ap, an_ap, cd_ap, ct_ap, sl_ap, l_ap, c_ap⟩ := f_ap.ex
  have F_ap := fun_mk (st := sAp) l_ap c_ap k_ap
  have b_ap := F_ap.binds (ps := ["_law_one", "_law_more"]) fun _ _ _ _ _ _ us hl => match us, hl with | [_, _], _ => rfl
  obtain ⟨oc_cr, od_cr, kV_cr, dc_cr, pm_cr, an_cr, cd_cr, ct_cr, sl_cr, l_cr, c_cr⟩ := f_cr.ex
  have F_cr := fun_mk (st := sCR) l_cr c_cr k_cr
  have b_cr := F_cr.binds (ps := ["_law_pen_here", "_law_blocks", "_law_made"]) fun _ _ _ _ _ _ us hl => match us, hl with | [_, _, _], _ => rfl
  obtain ⟨oc_er, od_er, kV_er, dc_er, pm_er, an_er, cd_er, ct_er, sl_er, l_er, c_er⟩ := f_er.ex
  have F_er := fun_mk (st := sER) l_er c_er k_er
  have b_er := F_er.binds (ps := ["_law_pen_here", "_law_blocks", "_law_made", "_law_strange"]) fun _ _ _ _ _ _ us hl => match us, hl with | [_, _, _, _], _ => rfl
  obtain ⟨oc_law, od_law, kV_law, dc_law, pm_law, an_law, cd_law, ct_law, sl_law, l_law, c_law⟩ := f_law.ex
  have F_law := fun_mk (st := sLaw) l_law c_law k_law
  obtain ⟨oc_le, od_le, kV_le, dc_le, pm_le, an_le, cd_le, ct_le, sl_le, l_le, c_le⟩ := f_le.ex
  have F_le := fun_mk (st := sLetter) l_le c_le k_le
  have b_le := F_le.binds (ps := ["character"]) fun _ _ _ _ _ _ us hl => match us, hl with | [_], _ => rfl
  obtain ⟨oc_li, od_li, kV_li, dc_li, pm_li, an_li, cd_li, ct_li, sl_li, l_li, c_li⟩ := f_li.ex
  have F_li := fun_mk (st := sLine) l_li c_li k_li
  have b_li := F_li.binds (ps := ["value"]) fun _ _ _ _ _ _ us hl => match us, hl with | [_], _ => rfl
  obtain ⟨oc_tx, od_tx, kV_tx, dc_tx, pm_tx, an_tx, cd_tx, ct_tx, sl_tx, l_tx, c_tx⟩ := f_tx.ex
  have F_tx := fun_mk (st := sIsText) l_tx c_tx k_tx
  have b_tx := F_tx.binds (ps := ["value"]) fun _ _ _ _ _ _ us hl => match us, hl with | [_], _ => rfl
  obtain ⟨oc_ck, od_ck, kV_ck, dc_ck, pm_ck, an_ck, cd_ck, ct_ck, sl_ck, l_ck, c_ck⟩ := f_ck.ex
  have F_ck := fun_mk (st := sChkT) l_ck c_ck k_ck
  have b_ck := F_ck.binds (ps := ["value"]) fun _ _ _ _ _ _ us hl => match us, hl with | [_], _ => rfl
  obtain ⟨oc_ii, od_ii, kV_ii, dc_ii, pm_ii, an_ii, cd_ii, ct_ii, sl_ii, l_ii, c_ii⟩ := f_ii.ex
  have F_ii := fun_mk (st := sIsInt) l_ii c_ii k_ii
  have b_ii := F_ii.binds (ps := ["value"]) fun _ _ _ _ _ _ us hl => match us, hl with | [_], _ => rfl
  obtain ⟨oc_cn, od_cn, kV_cn, dc_cn, pm_cn, an_cn, cd_cn, ct_cn, sl_cn, l_cn, c_cn⟩ := f_cn.ex
  have F_cn := fun_mk (st := sCounting) l_cn c_cn k_cn
  have b_cn := F_cn.binds (ps := ["value"]) fun _ _ _ _ _ _ us hl => match us, hl with | [_], _ => rfl
  obtain ⟨oc_bk, od_bk, kV_bk, dc_bk, pm_bk, an_bk, cd_bk, ct_bk, sl_bk, l_bk, c_bk⟩ := f_bk.ex
  have F_bk := fun_mk (st := sIsBlock) l_bk c_bk k_bk
  have b_bk := F_bk.binds (ps := ["value"]) fun _ _ _ _ _ _ us hl => match us, hl with | [_], _ => rfl
  obtain ⟨oc_lo, od_lo, kV_lo, dc_lo, pm_lo, an_lo, cd_lo, ct_lo, sl_lo, l_lo, c_lo⟩ := f_lo.ex
  have F_lo := fun_mk (st := sLenOf) l_lo c_lo k_lo
  have b_lo := F_lo.binds (ps := ["blocks"]) fun _ _ _ _ _ _ us hl => match us, hl with | [_], _ => rfl
  obtain ⟨oc_fu, od_fu, kV_fu, dc_fu, pm_fu, an_fu, cd_fu, ct_fu, sl_fu, l_fu, c_fu⟩ := f_fu.ex
  have F_fu := fun_mk (st := sFU) l_fu c_fu k_fu
  have b_fu := F_fu.binds (ps := ["one", "other", "at", "place", "many"]) fun _ _ _ _ _ _ us hl => match us, hl with | [_, _, _, _, _], _ => rfl
  obtain ⟨oc_un, od_un, kV_un, dc_un, pm_un, an_un, cd_un, ct_un, sl_un, l_un, c_un⟩ := f_un.ex
  have F_un := fun_mk (st := sUn) l_un c_un k_un
  have b_un := F_un.binds (ps := ["one", "other"]) fun _ _ _ _ _ _ us hl => match us, hl with | [_, _], _ => rfl
  obtain ⟨oc_en, od_en, kV_en, dc_en, pm_en, an_en, cd_en, ct_en, sl_en, l_en, c_en⟩ := f_en.ex
  have F_en := fun_mk (st := sEnds) l_en c_en k_en
  have b_en := F_en.binds (ps := ["blocks"]) fun _ _ _ _ _ _ us hl => match us, hl with | [_], _ => rfl
  obtain ⟨oc_mA, od_mA, kV_mA, dc_mA, pm_mA, an_mA, cd_mA, ct_mA, sl_mA, l_mA, c_mA⟩ := f_mA.ex
  have F_mA := fun_mk (st := sLadd) l_mA c_mA kA
  have b_mA := F_mA.binds (ps := ["self", "other"]) fun _ _ _ _ _ _ us hl => match us, hl with | [_, _], _ => rfl
  obtain ⟨oc_mE, od_mE, kV_mE, dc_mE, pm_mE, an_mE, cd_mE, ct_mE, sl_mE, l_mE, c_mE⟩ := f_mE.ex
  have F_mE := fun_mk (st := sLeq) l_mE c_mE kE
  have b_mE := F_mE.binds (ps := ["self", "other"]) fun _ _ _ _ _ _ us hl => match us, hl with | [_, _], _ => rfl
  obtain ⟨oc_mD, od_mD, kV_mD, dc_mD, pm_mD, an_mD, cd_mD, ct_mD, sl_mD, l_mD, c_mD⟩ := f_mD.ex
  have F_mD := fun_mk (st := sLdif) l_mD c_mD meD.kp
  have b_mD := F_mD.binds (ps := ["self", "other"]) fun _ _ _ _ _ _ us hl => match us, hl with | [_, _], _ => rfl
  obtain ⟨oc_mN, od_mN, kV_mN, dc_mN, pm_mN, an_mN, cd_mN, ct_mN, sl_mN, l_mN, c_mN⟩ := f_mN.ex
  have F_mN := fun_mk (st := sLlen) l_mN c_mN kN
  have b_mN := F_mN.binds (ps := ["self"]) fun _ _ _ _ _ _ us hl => match us, hl with | [_], _ => rfl
  obtain ⟨oc_mB, od_mB, kV_mB, dc_mB, pm_mB, an_mB, cd_mB, ct_mB, sl_mB, l_mB, c_mB⟩ := f_mB.ex
  have F_mB := fun_mk (st := sLblk) l_mB c_mB kB
  have b_mB := F_mB.binds (ps := ["self"]) fun _ _ _ _ _ _ us hl => match us, hl with | [_], _ => rfl
  obtain ⟨oc_mO, od_mO, kV_mO, dc_mO, pm_mO, an_mO, cd_mO, ct_mO, sl_mO, l_mO, c_mO⟩ := f_mO.ex
  have F_mO := fun_mk (st := sLof) l_mO c_mO kO
  have b_mO := F_mO.binds (ps := ["cls", "text"]) fun _ _ _ _ _ _ us hl => match us, hl with | [_, _], _ => rfl
  have L0 : PkT mg t0 t1 t2 := ⟨mg_none_of X G z_len, mg_none_of X G z_set, mg_none_of X G z_all, mg_none_of X G z_ord, mg_none_of X G z_isinstance, mg_none_of X G z_str, mg_of X G y0, mg_of X G y1, mg_of X G y2⟩
  have T0 : Txt mg := ⟨mg_none_of X G z_len, mg_none_of X G z_int, mg_none_of X G z_list, mg_none_of X G z_abs⟩
  have KL : KLg K C := ⟨clC, noC, caC, cget, ctak, obC, ktC⟩
  refine ⟨fnOf "law" "law" (defArgs sLaw) (defBody sLaw) (defScope sLaw) .none kV_law dc_law pm_law an_law cd_law ct_law, fun s v => .of_eq rfl, fun base _ _ => ?_⟩
  have o_draw := ok_draw (P := P) (w := w) (base := base) F_draw T0
  have c_draw : DrawAt P w K mg base a_draw _ := ⟨o_draw, mg_of X G g_draw, k_draw, b_draw⟩
  have cP : PickAt P w K mg base a_pick _ := ⟨ok_pick F_pick T0 o_draw (mg_of X G g_draw) k_draw b_draw, mg_of X G g_pick, k_pick, b_pick⟩
  have mR := mg_none_of X G z_range
  have c_few : CallOf P w K mg base 3 "_law_few" ["_law_pen_here"] spFew a_few _ := ⟨ok_few F_few T0 mR cP F_sgn (fun s => .of_eq rfl) (mg_of X G g_sgn), mg_of X G g_few, k_few, b_few⟩
  have c_row : CallOf P w K mg base 3 "_law_row" ["_law_pen_here", "_law_signs_here", "_law_least", "_law_most_letters"] spRow a_row _ := ⟨ok_row F_row T0 mR cP o_draw (mg_of X G g_draw) k_draw b_draw, mg_of X G g_row, k_row, b_row⟩
  have c_pen : CallOf P w K mg base 1 "_law_pen" ["_law_script"] (spPen K) a_pen _ := ⟨ok_pen F_pen T0, mg_of X G g_pen, k_pen, b_pen⟩
  have c_gr : CallOf P w K mg base 2 "_law_great" ["_law_pen_here", "_law_digits"] spGreat a_gr _ := ⟨ok_great F_gr mR c_draw, mg_of X G g_gr, k_gr, b_gr⟩
  have c_lb : CallOf P w K mg base 4 "_law_lblocks" ["_law_pen_here", "_law_signs_here", "_law_most_blocks", "_law_tops"] spLB a_lb _ := ⟨ok_LB F_lb mR c_draw cP c_row, mg_of X G g_lb, k_lb, b_lb⟩
  have c_le : CallOf P w K mg base 1 "is_letter" ["character"] spLetter a_le _ := ⟨ok_letter F_le L0, mg_of X G g_le, k_le, b_le⟩
  have c_li : CallOf P w K mg base 2 "is_line" ["value"] (spLine K) a_li _ := ⟨ok_line F_li L0 c_le, mg_of X G g_li, k_li, b_li⟩
  have c_tx : CallOf P w K mg base 3 "is_text" ["value"] spIsText a_tx _ := ⟨ok_isText F_tx L0 (mg_none_of X G z_list) (mg_none_of X G z_tuple) c_li, mg_of X G g_tx, k_tx, b_tx⟩
  have c_ck : CallOf P w K mg base 4 "check_text" ["value"] spChk a_ck _ := ⟨ok_chk F_ck c_tx, mg_of X G g_ck, k_ck, b_ck⟩
  have c_ii : CallOf P w K mg base 1 "is_integer" ["value"] spInt a_ii _ := ⟨ok_isInt F_ii (mg_none_of X G z_isinstance) (mg_none_of X G z_int) (mg_none_of X G z_bool), mg_of X G g_ii, k_ii, b_ii⟩
  have c_cn : CallOf P w K mg base 2 "is_counting" ["value"] spCnt a_cn _ := ⟨ok_counting F_cn c_ii, mg_of X G g_cn, k_cn, b_cn⟩
  have c_bk : CallOf P w K mg base 4 "is_block" ["value"] spIsBlk a_bk _ := ⟨ok_isBlk F_bk L0 (mg_none_of X G z_tuple) (mg_of X G y4) (mg_of X G y5) c_tx c_cn, mg_of X G g_bk, k_bk, b_bk⟩
  have c_lo : CallOf P w K mg base 1 "length_of" ["blocks"] spLenOf a_lo _ := ⟨ok_lenOf F_lo (mg_none_of X G z_len) (mg_none_of X G z_sum), mg_of X G g_lo, k_lo, b_lo⟩
  have c_fu : CallOf P w K mg base 1 "first_unlike" ["one", "other", "at", "place", "many"] spFU a_fu _ := ⟨ok_FU F_fu (mg_none_of X G z_len) mR, mg_of X G g_fu, k_fu, b_fu⟩
  have c_en : CallOf P w K mg base 1 "block_ends" ["blocks"] spEnds a_en _ := ⟨ok_ends F_en (mg_none_of X G z_len), mg_of X G g_en, k_en, b_en⟩
  have c_un : CallOf P w K mg base 2 "unlike_index" ["one", "other"] spUn a_un _ := ⟨ok_un F_un (mg_none_of X G z_len) (mg_none_of X G z_min) c_lo c_en c_fu, mg_of X G g_un, k_un, b_un⟩
  have IP := ok_initP (P := P) (w := w) (mg := mg) (base := base) ini KL (mg_none_of X G z_enumerate) (mg_none_of X G z_len) (mg_none_of X G z_tuple) (mg_of X G y3) c_bk
  have IK := ok_initK (P := P) (w := w) (mg := mg) (base := base) ini KL (mg_none_of X G z_enumerate) (mg_none_of X G z_len) (mg_none_of X G z_tuple) (mg_of X G y3) c_bk
  have oB := ok_blks (P := P) (w := w) (mg := mg) (base := base) F_mB KL
  have oN := ok_llen (P := P) (w := w) (mg := mg) (base := base) F_mN KL c_lo
  have oD := ok_diff (P := P) (w := w) (mg := mg) (base := base) F_mD KL c_un prB oB b_mB
  have oE := ok_leq (P := P) (w := w) (mg := mg) (base := base) F_mE KL (mg_none_of X G z_isinstance) (mg_of X G gC) c_un
  have oA := ok_plus (P := P) (w := w) (mg := mg) (base := base) (D := D) F_mA KL (mg_of X G gC) mkC IK prB oB b_mB
  have oO := ok_of (P := P) (w := w) (mg := mg) (base := base) (D := D) F_mO mkC (mg_none_of X G z_tuple) IK c_ck
  have GA : LgAt P w K mg base C fI a_mA _ := ⟨KL, mkC, mg_of X G gC, IP, oA, atA, fnA, b_mA, sfC⟩
  have kbD : KBinds K (fnOf "difference" "LongText.difference" (defArgs sLdif) (defBody sLdif) (defScope sLdif) .none kV_mD dc_mD pm_mD an_mD cd_mD ct_mD) ["self", "other"] ["other"] g2 g2V := ⟨fun s us ws _ hl => by (obtain ⟨p, q, rfl, rfl⟩ := g2_len hl; exact .of_eq rfl), g2_rel⟩
  have GF : LgF P w K mg base C a_mE a_mD a_mN pN a_mB pB _ _ _ _ := ⟨KL, oE, atE, fnE, b_mE, neC, nf0, nfT, nfS, nfI, kT, kS, kI, oD, meD, b_mD, kbD, oN, prN, b_mN, oB, prB, b_mB⟩
  have c_lm : CallOf P w K mg base 8 "_law_lmade" ["_law_blocks"] (spLM C) a_lm _ := ⟨ok_LM F_lm GA, mg_of X G g_lm, k_lm, b_lm⟩
  have c_ls : CallOf P w K mg base 1 "_law_lsize" ["_law_blocks"] spLS a_ls _ := ⟨ok_LS F_ls (mg_none_of X G z_len) (mg_none_of X G z_sum), mg_of X G g_ls, k_ls, b_ls⟩
  have c_ll : CallOf P w K mg base 1 "_law_lline" ["_law_blocks", "_law_slot"] spLL a_ll _ := ⟨ok_LL F_ll (mg_none_of X G z_len) (mg_none_of X G z_int), mg_of X G g_ll, k_ll, b_ll⟩
  have c_lw : CallOf P w K mg base 1 "_law_lwritten" ["_law_blocks"] spLW a_lw _ := ⟨ok_LW F_lw (mg_none_of X G z_list) (mg_none_of X G z_sum), mg_of X G g_lw, k_lw, b_lw⟩
  have c_sp : CallOf P w K mg base 3 "_law_lsplit" ["_law_pen_here", "_law_one"] spSpl a_sp _ := ⟨ok_spl F_sp (mg_none_of X G z_len) (mg_none_of X G z_int) c_draw c_gr, mg_of X G g_sp, k_sp, b_sp⟩
  have c_ra : CallOf P w K mg base 1 "_law_rows_at" ["_law_blocks", "_law_spots"] spRA a_ra _ := ⟨ok_RA F_ra (mg_none_of X G z_len) (mg_none_of X G z_int) (mg_none_of X G z_list) (mg_none_of X G z_min), mg_of X G g_ra, k_ra, b_ra⟩
  have c_ap : CallOf P w K mg base 2 "_law_apart" ["_law_one", "_law_more"] spAp a_ap _ := ⟨ok_ap F_ap (mg_none_of X G z_len) (mg_none_of X G z_min) mR (mg_none_of X G z_sorted) (mg_none_of X G z_set) c_ls c_ll, mg_of X G g_ap, k_ap, b_ap⟩
  have oCR := ok_CR (P := P) (w := w) (mg := mg) (base := base) F_cr GF (mg_none_of X G z_sum) (mg_none_of X G z_repr) c_sp c_lm
  have oER := ok_ER (P := P) (w := w) (mg := mg) (base := base) F_er GF (mg_none_of X G z_int) (mg_none_of X G z_repr) c_ls c_gr c_ra c_lw c_ll c_ap c_lm
  have OF : FnR P w K mg base CX0 7 a_mO (spOf C) := (oO.raw b_mO .nil).imp fun vs H Q E h => by rw [List.append_nil]; exact h
  exact ok_law F_law GF GA mR (mg_none_of X G z_min) (mg_none_of X G z_len) (mg_none_of X G z_repr) c_pen c_few c_lb c_row c_gr c_lm c_ap oCR (mg_of X G g_cr) k_cr b_cr oER (mg_of X G g_er) k_er b_er ⟨rdC, gaC⟩ ofC OF
end LA
end
section
open PySem PySem.W PyProof.Rows
set_option Elab.async false
set_option maxRecDepth 100000
set_option maxHeartbeats 0
open_top LA47head for PySem.Challenge.rw_linestream_k47_whole_long_texts_cut
end
section
set_option Elab.async false
set_option linter.all false
open PySem PySem.W PyProof.Rows
set_option maxRecDepth 100000 in
set_option maxHeartbeats 0 in
theorem PySem.Challenge.cw_linestream_k47_whole_long_texts_cut_holds : PySem.Challenge.rw_linestream_k47_whole_long_texts_cut.Holds :=
  LA47head (by
    k_fill
    refine XK.caller_walk (l := PySem.Challenge.rw_linestream_k47_whole_long_texts_cut) (n := 63) (k := 20) (x := "_law_script") (sp := fun w => LA.spLaw _) rfl (by decide) rfl ⟨rfl, by decide, by decide⟩ (fun w h Y => PySem.W.kIn_of Y) ?F (fun w H a ns hl hS => ⟨a, ns, rfl, hS, hl, fun _ => rfl⟩)
    case F =>
      intro w mg fa h KX G hmg0
      have hmg : mg "law" = some (.ref fa) := hmg0
      clear hmg0
      refine' LA.all_mk KX G hmg ?h_g_pen ?h_f_pen ?h_k_pen ?h_g_draw ?h_f_draw ?h_k_draw ?h_g_pick ?h_f_pick ?h_k_pick ?h_g_gr ?h_f_gr ?h_k_gr ?h_g_sgn ?h_f_sgn ?h_k_sgn ?h_g_few ?h_f_few ?h_k_few ?h_g_row ?h_f_row ?h_k_row ?h_g_lb ?h_f_lb ?h_k_lb ?h_g_lm ?h_f_lm ?h_k_lm ?h_g_lw ?h_f_lw ?h_k_lw ?h_g_ls ?h_f_ls ?h_k_ls ?h_g_ll ?h_f_ll ?h_k_ll ?h_g_sp ?h_f_sp ?h_k_sp ?h_g_ra ?h_f_ra ?h_k_ra ?h_g_ap ?h_f_ap ?h_k_ap ?h_g_cr ?h_f_cr ?h_k_cr ?h_g_er ?h_f_er ?h_k_er ?h_g_law ?h_f_law ?h_k_law ?h_g_le ?h_f_le ?h_k_le ?h_g_li ?h_f_li ?h_k_li ?h_g_tx ?h_f_tx ?h_k_tx ?h_g_ck ?h_f_ck ?h_k_ck ?h_g_ii ?h_f_ii ?h_k_ii ?h_g_cn ?h_f_cn ?h_k_cn ?h_g_bk ?h_f_bk ?h_k_bk ?h_g_lo ?h_f_lo ?h_k_lo ?h_g_fu ?h_f_fu ?h_k_fu ?h_g_un ?h_f_un ?h_k_un ?h_g_en ?h_f_en ?h_k_en ?h_gC ?h_clC ?h_mkC ?h_ini ?h_noC ?h_caC ?h_cget ?h_ctak ?h_obC ?h_ktC ?h_atA ?h_fnA ?h_kA ?h_sfC ?h_atE ?h_fnE ?h_kE ?h_neC ?h_nf0 ?h_nfT ?h_nfS ?h_nfI ?h_kT ?h_kS ?h_kI ?h_meD ?h_prN ?h_kN ?h_prB ?h_kB ?h_rdC ?h_gaC ?h_ofC ?h_kO ?h_f_mA ?h_f_mE ?h_f_mD ?h_f_mN ?h_f_mB ?h_f_mO ?h_z_len ?h_z_int ?h_z_list ?h_z_abs ?h_z_range ?h_z_set ?h_z_all ?h_z_ord ?h_z_isinstance ?h_z_str ?h_z_sum ?h_z_sorted ?h_z_min ?h_z_tuple ?h_z_enumerate ?h_z_bool ?h_z_repr ?h_y0 ?h_y1 ?h_y2 ?h_y3 ?h_y4 ?h_y5
      (case h_g_pen => k_is)
      (case h_f_pen => (refine' LA.fnF_mk ?q1 ?q2; (case q1 => k_is); (case q2 => k_is)))
      (case h_k_pen => k_is)
      (case h_g_draw => k_is)
      (case h_f_draw => (refine' LA.fnF_mk ?q1 ?q2; (case q1 => k_is); (case q2 => k_is)))
      (case h_k_draw => k_is)
      (case h_g_pick => k_is)
      (case h_f_pick => (refine' LA.fnF_mk ?q1 ?q2; (case q1 => k_is); (case q2 => k_is)))
      (case h_k_pick => k_is)
      (case h_g_gr => k_is)
      (case h_f_gr => (refine' LA.fnF_mk ?q1 ?q2; (case q1 => k_is); (case q2 => k_is)))
      (case h_k_gr => k_is)
      (case h_g_sgn => k_is)
      (case h_f_sgn => (refine' LA.fnF_mk ?q1 ?q2; (case q1 => k_is); (case q2 => k_is)))
      (case h_k_sgn => k_is)
      (case h_g_few => k_is)
      (case h_f_few => (refine' LA.fnF_mk ?q1 ?q2; (case q1 => k_is); (case q2 => k_is)))
      (case h_k_few => k_is)
      (case h_g_row => k_is)
      (case h_f_row => (refine' LA.fnF_mk ?q1 ?q2; (case q1 => k_is); (case q2 => k_is)))
      (case h_k_row => k_is)
      (case h_g_lb => k_is)
      (case h_f_lb => (refine' LA.fnF_mk ?q1 ?q2; (case q1 => k_is); (case q2 => k_is)))
      (case h_k_lb => k_is)
      (case h_g_lm => k_is)
      (case h_f_lm => (refine' LA.fnF_mk ?q1 ?q2; (case q1 => k_is); (case q2 => k_is)))
      (case h_k_lm => k_is)
      (case h_g_lw => k_is)
      (case h_f_lw => (refine' LA.fnF_mk ?q1 ?q2; (case q1 => k_is); (case q2 => k_is)))
      (case h_k_lw => k_is)
      (case h_g_ls => k_is)
      (case h_f_ls => (refine' LA.fnF_mk ?q1 ?q2; (case q1 => k_is); (case q2 => k_is)))
      (case h_k_ls => k_is)
      (case h_g_ll => k_is)
      (case h_f_ll => (refine' LA.fnF_mk ?q1 ?q2; (case q1 => k_is); (case q2 => k_is)))
      (case h_k_ll => k_is)
      (case h_g_sp => k_is)
      (case h_f_sp => (refine' LA.fnF_mk ?q1 ?q2; (case q1 => k_is); (case q2 => k_is)))
      (case h_k_sp => k_is)
      (case h_g_ra => k_is)
      (case h_f_ra => (refine' LA.fnF_mk ?q1 ?q2; (case q1 => k_is); (case q2 => k_is)))
      (case h_k_ra => k_is)
      (case h_g_ap => k_is)
      (case h_f_ap => (refine' LA.fnF_mk ?q1 ?q2; (case q1 => k_is); (case q2 => k_is)))
      (case h_k_ap => k_is)
      (case h_g_cr => k_is)
      (case h_f_cr => (refine' LA.fnF_mk ?q1 ?q2; (case q1 => k_is); (case q2 => k_is)))
      (case h_k_cr => k_is)
      (case h_g_er => k_is)
      (case h_f_er => (refine' LA.fnF_mk ?q1 ?q2; (case q1 => k_is); (case q2 => k_is)))
      (case h_k_er => k_is)
      (case h_g_law => k_is)
      (case h_f_law => (refine' LA.fnF_mk ?q1 ?q2; (case q1 => k_is); (case q2 => k_is)))
      (case h_k_law => k_is)
      (case h_g_le => k_is)
      (case h_f_le => (refine' LA.fnF_mk ?q1 ?q2; (case q1 => k_is); (case q2 => k_is)))
      (case h_k_le => k_is)
      (case h_g_li => k_is)
      (case h_f_li => (refine' LA.fnF_mk ?q1 ?q2; (case q1 => k_is); (case q2 => k_is)))
      (case h_k_li => k_is)
      (case h_g_tx => k_is)
      (case h_f_tx => (refine' LA.fnF_mk ?q1 ?q2; (case q1 => k_is); (case q2 => k_is)))
      (case h_k_tx => k_is)
      (case h_g_ck => k_is)
      (case h_f_ck => (refine' LA.fnF_mk ?q1 ?q2; (case q1 => k_is); (case q2 => k_is)))
      (case h_k_ck => k_is)
      (case h_g_ii => k_is)
      (case h_f_ii => (refine' LA.fnF_mk ?q1 ?q2; (case q1 => k_is); (case q2 => k_is)))
      (case h_k_ii => k_is)
      (case h_g_cn => k_is)
      (case h_f_cn => (refine' LA.fnF_mk ?q1 ?q2; (case q1 => k_is); (case q2 => k_is)))
      (case h_k_cn => k_is)
      (case h_g_bk => k_is)
      (case h_f_bk => (refine' LA.fnF_mk ?q1 ?q2; (case q1 => k_is); (case q2 => k_is)))
      (case h_k_bk => k_is)
      (case h_g_lo => k_is)
      (case h_f_lo => (refine' LA.fnF_mk ?q1 ?q2; (case q1 => k_is); (case q2 => k_is)))
      (case h_k_lo => k_is)
      (case h_g_fu => k_is)
      (case h_f_fu => (refine' LA.fnF_mk ?q1 ?q2; (case q1 => k_is); (case q2 => k_is)))
      (case h_k_fu => k_is)
      (case h_g_un => k_is)
      (case h_f_un => (refine' LA.fnF_mk ?q1 ?q2; (case q1 => k_is); (case q2 => k_is)))
      (case h_k_un => k_is)
      (case h_g_en => k_is)
      (case h_f_en => (refine' LA.fnF_mk ?q1 ?q2; (case q1 => k_is); (case q2 => k_is)))
      (case h_k_en => k_is)
      (case h_gC => k_is)
      (case h_clC => (refine' ⟨?q1, ?q2, ?q3, ?q4⟩; (case q1 => k_is); (case q2 => k_is); (case q3 => k_is); (case q4 => k_is)))
      (case h_mkC => (refine' ⟨?q1, ?q2, ?q3, ?q4⟩; (case q1 => k_is); (case q2 => k_is); (case q3 => k_is); (case q4 => k_is)))
      (case h_ini => (refine' LA.funV_mk ?q1 ?q2 ?q3; (case q1 => k_is); (case q2 => k_is); (case q3 => k_is)))
      (case h_noC => (unfold L2.NoAttr; k_is))
      (case h_caC => k_is)
      (case h_cget => k_is)
      (case h_ctak => k_is)
      (case h_obC => k_is)
      (case h_ktC => kernel_rfl)
      (case h_atA => k_is)
      (case h_fnA => k_is)
      (case h_kA => k_is)
      (case h_sfC => k_is)
      (case h_atE => k_is)
      (case h_fnE => k_is)
      (case h_kE => k_is)
      (case h_neC => k_is)
      (case h_nf0 => k_is)
      (case h_nfT => k_is)
      (case h_nfS => k_is)
      (case h_nfI => k_is)
      (case h_kT => kernel_rfl)
      (case h_kS => kernel_rfl)
      (case h_kI => kernel_rfl)
      (case h_meD => (refine' ⟨?q1, ?q2, ?q3⟩; (case q1 => k_is); (case q2 => k_is); (case q3 => k_is)))
      (case h_prN => (refine' LA.propF_mk ?q1 ?q2 ?q3 ?q4; (case q1 => k_is); (case q2 => k_is); (case q3 => k_is); (case q4 => k_is)))
      (case h_kN => k_is)
      (case h_prB => (refine' LA.propF_mk ?q1 ?q2 ?q3 ?q4; (case q1 => k_is); (case q2 => k_is); (case q3 => k_is); (case q4 => k_is)))
      (case h_kB => k_is)
      (case h_rdC => k_is)
      (case h_gaC => k_is)
      (case h_ofC => (refine' LA.cmet_mk ?q1 ?q2 ?q3; (case q1 => k_is); (case q2 => k_is); (case q3 => k_is)))
      (case h_kO => k_is)
      (case h_f_mA => (refine' LA.fnF_mk ?q1 ?q2; (case q1 => k_is); (case q2 => k_is)))
      (case h_f_mE => (refine' LA.fnF_mk ?q1 ?q2; (case q1 => k_is); (case q2 => k_is)))
      (case h_f_mD => (refine' LA.fnF_mk ?q1 ?q2; (case q1 => k_is); (case q2 => k_is)))
      (case h_f_mN => (refine' LA.fnF_mk ?q1 ?q2; (case q1 => k_is); (case q2 => k_is)))
      (case h_f_mB => (refine' LA.fnF_mk ?q1 ?q2; (case q1 => k_is); (case q2 => k_is)))
      (case h_f_mO => (refine' LA.fnF_mk ?q1 ?q2; (case q1 => k_is); (case q2 => k_is)))
      (case h_z_len => k_is)
      (case h_z_int => k_is)
      (case h_z_list => k_is)
      (case h_z_abs => k_is)
      (case h_z_range => k_is)
      (case h_z_set => k_is)
      (case h_z_all => k_is)
      (case h_z_ord => k_is)
      (case h_z_isinstance => k_is)
      (case h_z_str => k_is)
      (case h_z_sum => k_is)
      (case h_z_sorted => k_is)
      (case h_z_min => k_is)
      (case h_z_tuple => k_is)
      (case h_z_enumerate => k_is)
      (case h_z_bool => k_is)
      (case h_z_repr => k_is)
      (case h_y0 => k_is)
      (case h_y1 => k_is)
      (case h_y2 => k_is)
      (case h_y3 => k_is)
      (case h_y4 => k_is)
      (case h_y5 => k_is)
    )
end
