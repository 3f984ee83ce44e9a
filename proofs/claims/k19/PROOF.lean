import PyProof.Rows.All
import Wide.All
import OpenK.AllK
import Wide.FinOn
import KE.OsRunLaw
import KE.KExcInit
import HandS.ForMost
import HandS.Exc
import HandS.ExcOwn
import HandS.ExcInit
import HandS.ExcValue
import HandS.IsInst
import HandS.ExcIs
import KE.KExcIs
import HandS.MakeKwOnly
import HandS.SetFor
import HandS.RaiseMore
import KE.KxIndex
import HandS.Wide
import HandS.ReplaceLit
import HandS.Codes
import HandS.SortKw
import HandS.SetTxt0
import HandS.Strs
import HandS.Walk
import HandS.WordsExc
import HandS.Property
import HandS.OwnEq
import PyProof.InstEq
import HandS.Lambda
import HandS.ExcField
import PyProof.ReprLen
import PyProof.Rows.ReprOcc
import HandS.ClsMeth
import KE.KTypeName
import HandS.Defaults
import PyProof.EqKinds
import PyProof.NeKinds
import PyProof.EqAt
import HandS.TryOnly
import HandS.EndTab
import HandS.Words
import PySem.Challenge.RW_linestream_k19_addresses_made
set_option Elab.async false
set_option linter.all false
section
set_option Elab.async false
set_option maxRecDepth 100000
set_option maxHeartbeats 0
namespace OneRun
open PySem PySem.W PyProof.Rows
theorem split3 {B C : Type} {x : Option SharedT} {p : Program} {h0 : Heap} {g : SharedT → B} {h : SharedT → C} {a : Bool} {b : B} {c : C} (h1 : x.map (fun s => HeadRun.looksF p h0 s.abs) = some a) (h2 : x.map (fun s => [g s]) = some [b]) (h3 : x.map (fun s => [h s]) = some [c]) : x.map (fun s => (HeadRun.looksF p h0 s.abs, g s, h s)) = some (a, b, c) := by
  cases x with
  | none => cases h1
  | some s =>
    cases h1
    cases h2
    cases h3
    rfl
section
/-- names what the head writes out: the view and the heap; of no use else -/
local macro_rules | `(tactic| kernel_rfl) => `(tactic| exact (‹∀ p : Prop, p› _))
theorem dry (all : ∀ p : Prop, p) : PySem.Challenge.rw_linestream_k19_addresses_made.Holds := by
  w_on; o_law; k_headL
  (case hw => w_witness2)
  exact all _
end
abbrev R : Program := PySem.Challenge.rw_linestream_k19_addresses_made.row.prog
theorem r_looks (w : World) (os : OsState) : (HeadRun.endF (HeadRun.stepQ (HeadRun.denQ HeadRun.tabQ) R w) 18474 R w os).map (fun s => HeadRun.looksF R (boot_heap w.params) s.abs) = some true := by kernel_rfl
theorem seen_of {A0 A1 A2 A3 A4 A5 A6 A7 A8 : Type} {x : Option SharedT} {g : SharedT → A0 × A1 × A2 × A3 × A4 × A5 × A6 × A7 × A8} {b0 : A0} {b1 : A1} {b2 : A2} {b3 : A3} {b4 : A4} {b5 : A5} {b6 : A6} {b7 : A7} {b8 : A8}
    (hA : x.map (fun s => ((g s).1, (g s).2.1, (g s).2.2.2.2.1, (g s).2.2.2.2.2.2.1, (g s).2.2.2.2.2.2.2.2)) = some (b0, b1, b4, b6, b8)) (hB : x.map (fun s => ((g s).2.2.1, (g s).2.2.2.2.2.2.2.1)) = some (b2, b7)) (hC : x.map (fun s => [(g s).2.2.2.1]) = some [b3]) (hD : x.map (fun s => [(g s).2.2.2.2.2.1]) = some [b5]) : x.map (fun s => [g s]) = some [(b0, b1, b2, b3, b4, b5, b6, b7, b8)] := by
  cases x with
  | none => cases hA
  | some s =>
    have eA := Option.some.inj hA
    have eB := Option.some.inj hB
    have eC := Option.some.inj hC
    have eD := Option.some.inj hD
    cases eA
    cases eB
    cases eC
    cases eD
    rfl
theorem r_seenA (w : World) (os : OsState) : (HeadRun.endF (HeadRun.stepQ (HeadRun.denQ HeadRun.tabQ) R w) 18474 R w os).map (fun s => ((HeadRun.seenQ dry.view_39 ["Has", "Begins", "Ends", "Is", "Only", "Fails", "Both", "Either", "depth_of_conditions", "fits_within_conditions", "Number", "Each", "If", "Kept", "Not", "Range", "Count", "depth_of_scripts", "fits_within_scripts"] (importedModules R.main.body) (fun s => xlAt dry.view_39 [] s && recOk (RowW.records (OpenRow.toRowW PySem.Challenge.rw_linestream_k19_addresses_made.row)) s) s.abs).1, (HeadRun.seenQ dry.view_39 ["Has", "Begins", "Ends", "Is", "Only", "Fails", "Both", "Either", "depth_of_conditions", "fits_within_conditions", "Number", "Each", "If", "Kept", "Not", "Range", "Count", "depth_of_scripts", "fits_within_scripts"] (importedModules R.main.body) (fun s => xlAt dry.view_39 [] s && recOk (RowW.records (OpenRow.toRowW PySem.Challenge.rw_linestream_k19_addresses_made.row)) s) s.abs).2.1, (HeadRun.seenQ dry.view_39 ["Has", "Begins", "Ends", "Is", "Only", "Fails", "Both", "Either", "depth_of_conditions", "fits_within_conditions", "Number", "Each", "If", "Kept", "Not", "Range", "Count", "depth_of_scripts", "fits_within_scripts"] (importedModules R.main.body) (fun s => xlAt dry.view_39 [] s && recOk (RowW.records (OpenRow.toRowW PySem.Challenge.rw_linestream_k19_addresses_made.row)) s) s.abs).2.2.2.2.1, (HeadRun.seenQ dry.view_39 ["Has", "Begins", "Ends", "Is", "Only", "Fails", "Both", "Either", "depth_of_conditions", "fits_within_conditions", "Number", "Each", "If", "Kept", "Not", "Range", "Count", "depth_of_scripts", "fits_within_scripts"] (importedModules R.main.body) (fun s => xlAt dry.view_39 [] s && recOk (RowW.records (OpenRow.toRowW PySem.Challenge.rw_linestream_k19_addresses_made.row)) s) s.abs).2.2.2.2.2.2.1, (HeadRun.seenQ dry.view_39 ["Has", "Begins", "Ends", "Is", "Only", "Fails", "Both", "Either", "depth_of_conditions", "fits_within_conditions", "Number", "Each", "If", "Kept", "Not", "Range", "Count", "depth_of_scripts", "fits_within_scripts"] (importedModules R.main.body) (fun s => xlAt dry.view_39 [] s && recOk (RowW.records (OpenRow.toRowW PySem.Challenge.rw_linestream_k19_addresses_made.row)) s) s.abs).2.2.2.2.2.2.2.2)) = some (expectedOf dry.view_39, bltViewBooted, pinGoodD (drecsOf dry.view_39), plainGoodD dry.view_39 ["Has", "Begins", "Ends", "Is", "Only", "Fails", "Both", "Either", "depth_of_conditions", "fits_within_conditions", "Number", "Each", "If", "Kept", "Not", "Range", "Count", "depth_of_scripts", "fits_within_scripts"], clsGoodW dry.view_39 ["Has", "Begins", "Ends", "Is", "Only", "Fails", "Both", "Either", "depth_of_conditions", "fits_within_conditions", "Number", "Each", "If", "Kept", "Not", "Range", "Count", "depth_of_scripts", "fits_within_scripts"]) := by kernel_rfl
theorem r_seenB (w : World) (os : OsState) : (HeadRun.endF (HeadRun.stepQ (HeadRun.denQ HeadRun.tabQ) R w) 18474 R w os).map (fun s => ((HeadRun.seenQ dry.view_39 ["Has", "Begins", "Ends", "Is", "Only", "Fails", "Both", "Either", "depth_of_conditions", "fits_within_conditions", "Number", "Each", "If", "Kept", "Not", "Range", "Count", "depth_of_scripts", "fits_within_scripts"] (importedModules R.main.body) (fun s => xlAt dry.view_39 [] s && recOk (RowW.records (OpenRow.toRowW PySem.Challenge.rw_linestream_k19_addresses_made.row)) s) s.abs).2.2.1, (HeadRun.seenQ dry.view_39 ["Has", "Begins", "Ends", "Is", "Only", "Fails", "Both", "Either", "depth_of_conditions", "fits_within_conditions", "Number", "Each", "If", "Kept", "Not", "Range", "Count", "depth_of_scripts", "fits_within_scripts"] (importedModules R.main.body) (fun s => xlAt dry.view_39 [] s && recOk (RowW.records (OpenRow.toRowW PySem.Challenge.rw_linestream_k19_addresses_made.row)) s) s.abs).2.2.2.2.2.2.2.1)) = some (true, wideGood dry.view_39) := by kernel_rfl
theorem r_seenC (w : World) (os : OsState) : (HeadRun.endF (HeadRun.stepQ (HeadRun.denQ HeadRun.tabQ) R w) 18474 R w os).map (fun s => [(HeadRun.seenQ dry.view_39 ["Has", "Begins", "Ends", "Is", "Only", "Fails", "Both", "Either", "depth_of_conditions", "fits_within_conditions", "Number", "Each", "If", "Kept", "Not", "Range", "Count", "depth_of_scripts", "fits_within_scripts"] (importedModules R.main.body) (fun s => xlAt dry.view_39 [] s && recOk (RowW.records (OpenRow.toRowW PySem.Challenge.rw_linestream_k19_addresses_made.row)) s) s.abs).2.2.2.1]) = some [true] := by kernel_rfl
theorem r_seenD (w : World) (os : OsState) : (HeadRun.endF (HeadRun.stepQ (HeadRun.denQ HeadRun.tabQ) R w) 18474 R w os).map (fun s => [(HeadRun.seenQ dry.view_39 ["Has", "Begins", "Ends", "Is", "Only", "Fails", "Both", "Either", "depth_of_conditions", "fits_within_conditions", "Number", "Each", "If", "Kept", "Not", "Range", "Count", "depth_of_scripts", "fits_within_scripts"] (importedModules R.main.body) (fun s => xlAt dry.view_39 [] s && recOk (RowW.records (OpenRow.toRowW PySem.Challenge.rw_linestream_k19_addresses_made.row)) s) s.abs).2.2.2.2.2.1]) = some [plainGoodE dry.view_39 (looseW dry.view_39 ["Has", "Begins", "Ends", "Is", "Only", "Fails", "Both", "Either", "depth_of_conditions", "fits_within_conditions", "Number", "Each", "If", "Kept", "Not", "Range", "Count", "depth_of_scripts", "fits_within_scripts"])] := by kernel_rfl
theorem r_seen (w : World) (os : OsState) : (HeadRun.endF (HeadRun.stepQ (HeadRun.denQ HeadRun.tabQ) R w) 18474 R w os).map (fun s => [HeadRun.seenQ dry.view_39 ["Has", "Begins", "Ends", "Is", "Only", "Fails", "Both", "Either", "depth_of_conditions", "fits_within_conditions", "Number", "Each", "If", "Kept", "Not", "Range", "Count", "depth_of_scripts", "fits_within_scripts"] (importedModules R.main.body) (fun s => xlAt dry.view_39 [] s && recOk (RowW.records (OpenRow.toRowW PySem.Challenge.rw_linestream_k19_addresses_made.row)) s) s.abs]) = some [openGood dry.view_39 ["Has", "Begins", "Ends", "Is", "Only", "Fails", "Both", "Either", "depth_of_conditions", "fits_within_conditions", "Number", "Each", "If", "Kept", "Not", "Range", "Count", "depth_of_scripts", "fits_within_scripts"]] :=
  seen_of (g := fun s => HeadRun.seenQ dry.view_39 ["Has", "Begins", "Ends", "Is", "Only", "Fails", "Both", "Either", "depth_of_conditions", "fits_within_conditions", "Number", "Each", "If", "Kept", "Not", "Range", "Count", "depth_of_scripts", "fits_within_scripts"] (importedModules R.main.body) (fun s => xlAt dry.view_39 [] s && recOk (RowW.records (OpenRow.toRowW PySem.Challenge.rw_linestream_k19_addresses_made.row)) s) s.abs) (r_seenA w os) (r_seenB w os) (r_seenC w os) (r_seenD w os)
theorem r_obs (as : List Addr) (w : World) (os : OsState) (ek : as = (dry.heap_39 w.params).map (·.1)) : (HeadRun.endF (HeadRun.stepQ (HeadRun.denQ HeadRun.tabQ) R w) 18474 R w os).map (fun s => [as.map (HeadRun.getT s)]) = some [(dry.heap_39 w.params).map fun x => some x.2] := by
  rw [ek]
  kernel_rfl
theorem v_seen (q : Program) (hq : q = dry.view_39) (w : World) (os : OsState) : (HeadRun.endF (HeadRun.stepQ (HeadRun.denQ HeadRun.tabQ) R w) 18474 R w os).map (fun s => [HeadRun.seenQ q ["Has", "Begins", "Ends", "Is", "Only", "Fails", "Both", "Either", "depth_of_conditions", "fits_within_conditions", "Number", "Each", "If", "Kept", "Not", "Range", "Count", "depth_of_scripts", "fits_within_scripts"] (importedModules R.main.body) (fun s => xlAt q [] s && recOk (RowW.records (OpenRow.toRowW PySem.Challenge.rw_linestream_k19_addresses_made.row)) s) s.abs]) = some [openGood q ["Has", "Begins", "Ends", "Is", "Only", "Fails", "Both", "Either", "depth_of_conditions", "fits_within_conditions", "Number", "Each", "If", "Kept", "Not", "Range", "Count", "depth_of_scripts", "fits_within_scripts"]] := by
  cases hq
  exact r_seen w os
theorem v_obs (K : Params → Frag) (hK : K = dry.heap_39) (as : List Addr) (w : World) (os : OsState) (ek : as = (K w.params).map (·.1)) : (HeadRun.endF (HeadRun.stepQ (HeadRun.denQ HeadRun.tabQ) R w) 18474 R w os).map (fun s => [as.map (HeadRun.getT s)]) = some [(K w.params).map fun x => some x.2] := by
  cases hK
  exact r_obs as w os ek
end OneRun
end
section
set_option Elab.async false
set_option linter.all false
set_option maxRecDepth 100000
set_option maxHeartbeats 5000000
namespace XK
open PySem PySem.W PySem.Calls PySem.HandSPX
section
variable {pg : Program} {w : World} {A : Around} {E : Value → Shared → Prop} {R : Result → Shared → Prop} {h : Heap} {gs : Array GenState} {dr : Drawn} {tk0 : Nat} {ost : OsState}
variable {nam q : Str} {C N : Addr} {bss bml bmb : List Value} {hdc : Bool} {snl : List Str} {subc : List Value} {abst : Bool} {coll : Option Bool} {ddc : Option Addr} {k0 k1 k2 k3 k5 : Option Value} {B nid iid : String}
variable {us : List Value} {kw : List (Str × Value)}
theorem free_check {B : String} {a b : String} {n : Nat} {names : List Str} :
    Bind.check ⟨.any, B, B, .cls, [⟨"args", .varPos, false⟩, ⟨"kwargs", .varKw, false⟩]⟩ a b n names = pure () := by
  cases names with
  | nil => rfl
  | cons x r => rfl
theorem new_checked {M : Model} (F : ExcBaseFacts B nid iid bmb) (hT : ∀ X : String, bml.contains (.type X) = bmb.contains (.type X)) {Q : Unit → Shared → Prop}
    (hC : h.get? C = some (excClassObj nam q C N bss bml hdc snl subc abst coll ddc k0 k1 k2 k3 k5 nid)) (hq : Q () ⟨h, gs, dr, tk0, ost⟩) :
    wpAny M A (checkBuiltinCall nid ⟨.ref C :: us, kw⟩) Q E ⟨h, gs, dr, tk0, ost⟩ := by
  have c1 : (Value.ref C :: bml).contains (.type B) = true := by
    rw [List.contains_cons, hT, F.hasB, Bool.or_true]
  have c2 := F.noStar
  simp only [F.newKind, F.newSplit, F.newRow,
    checkBuiltinCall]
  repeat (first
    | refine wpAny_loadPart_at hC ?_
    | (refine wpAny_isSubtype_exc hC ?_; rw [c1])
    | refine wpAny_staticBase_exc hC ?_
    | refine wpAny_madeBy_exc hC ?_
    | simp only [bne_self_eq_false, Bool.false_eq_true, if_false]
    | wp_step)
  exact hq
/-- the object is laid, behind the tuple of what was passed by position -/
theorem new_laid (F : ExcBaseFacts B nid iid bmb) (hT : ∀ X : String, bml.contains (.type X) = bmb.contains (.type X)) (hu : us.length ≤ sizeLine)
    (hC : h.get? C = some (excClassObj nam q C N bss bml hdc snl subc abst coll ddc k0 k1 k2 k3 k5 nid))
    (hq : R (.ok (.ret (.ref (h.objs.size + 1)))) ⟨(h.push (kdv_tup us)).push (excO C h.objs.size), gs, dr, tk0, ost⟩) :
    codeAny (model pg w) A (.builtin nid ⟨.ref C :: us, kw⟩) R ⟨h, gs, dr, tk0, ost⟩ := by
  have ends := F.ends
  have c1 : (Value.ref C :: bml).contains (.type B) = true := by
    rw [List.contains_cons, hT, F.hasB, Bool.or_true]
  have c2 : (Value.ref C :: bml).contains (.type "AttributeError") = false := by
    rw [List.contains_cons, hT, F.noAttr]
    rfl
  have c3 : (Value.ref C :: bml).contains (.type "NameError") = false := by
    rw [List.contains_cons, hT, F.noName]
    rfl
  refine codeAny_builtinAt
    F.entry ?_
  unfold
    Builtin.«BaseException.__new__»
  refine wpAt_bind ?_
  show wpAt _ _ _ (stack >>= _)
    _ _ _
  refine wpAt_bind (wpAt_stack fun pp qq => wpAt_of_wpAny ?_)
  wp_walk
  refine wpAt_of_wpAny ?_
  rw [F.owner]
  repeat (first
    | with_reducible refine wpAny_madeHere_exc F.canon hC ?_
    | with_reducible refine wpAny_loadPart_at hC ?_
    | (with_reducible refine wpAny_isSubtype_exc hC ?_
       first | rw [c1] | rw [c2] | rw [c3])
    | wp_step)
  show R _ _
  rw [Heap.size_push]
  exact hq
theorem type_called {fI : Addr} {Q : Fin → Shared → Prop} (F : ExcBaseFacts B nid iid bmb) (hT : ∀ X : String, bml.contains (.type X) = bmb.contains (.type X)) (hu : us.length ≤ sizeLine)
    (hC : h.get? C = some (excClassObj nam q C N bss bml hdc snl subc abst coll ddc k0 k1 k2 k3 k5 nid))
    (hi : Looks (model pg w) h (typeLookup (.ref C) "__init__") (some (.ref fI)))
    (hb : ∀ self, Looks (model pg w) h (bindSpecial (.ref fI) self) (.ref fI, [self]))
    (hq : codeAny (model pg w) A (.call (.ref fI) ⟨.ref (h.objs.size + 1) :: us, kw⟩)
      (fun res s' => match res with | .ok (.ret v) => v = .none ∧ Q (.done (.ret (.ref (h.objs.size + 1)))) s' | .ok _ => False | .error e => E e s')
      ⟨(h.push (kdv_tup us)).push (excO C h.objs.size), gs, dr, tk0, ost⟩) :
    wpAny (model pg w) A (Builtin.«type.__call__» ⟨.ref C :: us, kw⟩) Q E ⟨h, gs, dr, tk0, ost⟩ := by
  repeat (first
    | with_reducible refine wpAny_loadPart_at hC ?_
    | with_reducible refine wpAny_madeBy_exc hC ?_
    | wp_step)
  refine codeAny_call_builtin_code (Code.quiet_builtin _ F.quiet) (new_checked F hT hC ?_)
  refine new_laid F hT hu hC ?_
  show wpAny _ _ _ _ _ _
  have kk : ∀ b o, h.get? b = some o → ((h.push (kdv_tup us)).push (excO C h.objs.size)).get? b = some o := fun b o e =>
    Heap.get?_push_of_some _ (Heap.get?_push_of_some _ e)
  have got : ((h.push (kdv_tup us)).push (excO C h.objs.size)).get? (h.objs.size + 1) = some (excO C h.objs.size) := by heap_get
  have gotC := kk _ _ hC
  have self : (Value.ref C :: bml).contains (.ref C) = true := by simp
  have i1 := hi.keeps kk
  have b1 := (hb (.ref (h.objs.size + 1))).keeps kk
  unfold isInstance
  repeat (first
    | with_reducible refine wpAny_loadPart_at got ?_
    | (with_reducible refine wpAny_isSubtype_exc gotC ?_
       rw [self])
    | wp_step)
  show wpAny _ _ (typeLookup (.ref C) _)
    _ _ _
  refine i1.at (wpAny_holding (wpAny_bind (b1.at ?_)))
  refine wpAny_bind (wpAny_call (codeAny_mono hq fun res s' z => ?_))
  rcases res with er | (vv | _ | _ | _) <;> first | exact z | exact z.elim | skip
  obtain ⟨rfl, z⟩ := z
  first
    | exact wpAny_pure
        (wpAny_pure z)
    | (wp_walk; exact z)
theorem called {fI : Addr} (F : ExcBaseFacts B nid iid bmb) (hT : ∀ X : String, bml.contains (.type X) = bmb.contains (.type X)) (hu : us.length ≤ sizeLine)
    (hC : h.get? C = some (excClassObj nam q C N bss bml hdc snl subc abst coll ddc k0 k1 k2 k3 k5 nid))
    (hi : Looks (model pg w) h (typeLookup (.ref C) "__init__") (some (.ref fI)))
    (hb : ∀ self, Looks (model pg w) h (bindSpecial (.ref fI) self) (.ref fI, [self]))
    (hq : codeAny (model pg w) (A.under (.builtin "type.__call__" ⟨.ref C :: us, kw⟩)) (.call (.ref fI) ⟨.ref (h.objs.size + 1) :: us, kw⟩) (InitBack (h.objs.size + 1) R)
      ⟨(h.push (kdv_tup us)).push (excO C h.objs.size), gs, dr, tk0, ost⟩) :
    codeAny (model pg w) A (.call (.ref C) ⟨us, kw⟩) R ⟨h, gs, dr, tk0, ost⟩ := by
  have f1 := tc_lookup
  have f2 := tc_bind (.ref C)
  have isT : (⟨h, gs, dr, tk0, ost⟩ : Shared).TypeIs (.ref C) "type" := ⟨_, hC, rfl⟩
  refine codeAny_of_tree ?_
  show wpAny _ _ (callAny (.ref C) _)
    _ _ _
  repeat (any_goals (first
    | assumption
    | with_reducible refine wpAny_loadPart_at hC ?_
    | wp_step))
  refine ⟨rfl, ?_⟩
  refine codeAny_call_builtin_at (Code.quiet_builtin _ (by decide +kernel)) entry_typeCall (wpAny_check_type_call_sub hC (type_called F hT hu hC hi hb ?_))
  refine codeAny_mono hq fun res s' z => ?_
  rcases res with er | (vv | _ | _ | _) <;> exact z
end
/-! ### self.f = v on an exception of any built-in base, that has no dict yet -/
section
open Builtin.ObjectAttr Builtin
variable {pg : Program} {w : World} {A : Around} {E : Value → Shared → Prop} {R : Result → Shared → Prop} {hpz : Heap} {gs : Array GenState} {dr : Drawn} {tk0 : Nat} {ost : OsState}
variable {K : Frag} {name : Str} {tk : Tok} {v : Value} {x C dx : Addr} {fv : Array Value} {cd : ClassData} {bmb : List Value}
/-- what a class over a built-in exception says of stores -/
structure Opn (cd : ClassData) : Prop where
  ne : cd.mro.isEmpty = false
  ob : cd.mro.contains (.type "object") = true
  ps : ∀ self : Value, refuseLoop self "__setattr__" cd.mro = pure ()
  hd : cd.hasDict = true
theorem first_field (X : K.In hpz) (hx : hpz.get? x = some { cls := .ref C, data := .fields fv }) (hcd : clsIn K C = some cd) (O : Opn cd) (ha : findIn K (.ref C) name = some none)
    (hq : ∀ h' tk' dx, (∀ b o, b ≠ x → hpz.get? b = some o → h'.get? b = some o) → hpz.objs.size ≤ dx → dx ≠ x → h'.get? x = some { cls := .ref C, dict := some dx, data := .fields fv } →
      h'.Ns1 dx (fun y => if y = name then some v else none) → R (.ok (.ret .none)) ⟨h', gs, dr, tk', ost⟩) :
    codeAny (model pg w) A (.call (.builtin "object.__setattr__") ⟨[.ref x, .str name tk, v], []⟩) R ⟨hpz, gs, dr, tk0, ost⟩ := by
  have J : InstAt hpz x { cls := .ref C, data := .fields fv } C none := ⟨hx, rfl, rfl, trivial⟩
  have S := F.store_object
  have far : x ≠ hpz.objs.size := Nat.ne_of_lt (Heap.lt_size hx)
  have subc : Looks (model pg w) hpz (isInstance (.ref x) (.type "object")) true :=
    J.type.andThen (looks_mroIn X (by
      unfold mroIn
      rw [hcd, Option.bind_some, if_neg (by rw [O.ne]; decide), O.ob]))
  refine codeAny_call_builtin S.slot.plain S.entry ?_
  refine @check_slot (model pg w) _ _ ⟨hpz, gs, dr, tk0, ost⟩ "object.__setattr__" "object" "__setattr__" (.ref x) [.str name tk, v] [] _ S.kind S.split subc (S.args (.ref x) (.str name tk) v) ?_
  have m1 : Looks (model pg w) hpz (mroOf (.ref C)) cd.mro := (looks_clsIn X hcd).andThen .now
  have m2 : Looks (model pg w) hpz (storeTaker? none) none := .now
  have m3 : Looks (model pg w) hpz (classData C) cd := looks_clsIn X hcd
  rw [osa_eq, refuse_eq]
  refine wpAny_bind (wpAny_bind (J.type.at (wpAny_bind (m1.at ?_))))
  rw [O.ps]
  refine wpAny_pure (wpAny_bind (J.type.at (wpAny_bind ((looks_findIn X ha).at (wpAny_bind (m2.at ?_))))))
  show wpAny _ _ (storeInOwnDict (.ref x) (.ref C) (.str name tk) name v false)
    _ _ _
  have hh := O.hd
  obtain ⟨nam, bss, mro, ns, qn, hdd, snl, sb, abst, coll, del⟩ := cd
  dsimp only at hh
  subst hh
  unfold storeInOwnDict
    ownDictForStores
  repeat (first
    | with_reducible refine store_in_new ?_ ?_
    | with_reducible refine wpAny_loadPart_at hx ?_
    | with_reducible refine m3.at ?_
    | wp_step)
  · refine ⟨_, #[], _, (Heap.get?_update_ne _ _ _ _ far.symm).trans (Heap.get?_push_at rfl rfl), rfl, fun e he => absurd he (by simp), fun _ => rfl⟩
  · intro h' tk' hn' same
    have hx₁ : (hpz.push { cls := .type "dict", data := .dict #[] }).get? x = some { cls := .ref C, data := .fields fv } := Heap.get?_push_of_some _ hx
    refine hq h' tk' hpz.objs.size (fun b o hb ho => ?_) (Nat.le_refl _) far.symm ?_ hn'
    · have e1 := same.2 b (Nat.ne_of_lt (Heap.lt_size ho))
      exact e1.trans ((Heap.get?_update_ne _ _ _ _ hb).trans (Heap.get?_push_of_some _ ho))
    · have e2 := same.2 x far
      exact e2.trans (Heap.get?_update_self _ hx₁ rfl)
theorem next_field {m0 : Str → Option Value} {nl : List Str} (X : K.In hpz) (hx : hpz.get? x = some { cls := .ref C, dict := some dx, data := .fields fv }) (hns : hpz.Ns1 dx m0) (hw : Within m0 nl) (hz : nl.length ≤ 1000)
    (hcd : clsIn K C = some cd) (O : Opn cd) (ha : findIn K (.ref C) name = some none)
    (hq : ∀ h' tk', (∀ b o, b ≠ dx → hpz.get? b = some o → h'.get? b = some o) → h'.Ns1 dx (fun y => if y = name then some v else m0 y) → R (.ok (.ret .none)) ⟨h', gs, dr, tk', ost⟩) :
    codeAny (model pg w) A (.call (.builtin "object.__setattr__") ⟨[.ref x, .str name tk, v], []⟩) R ⟨hpz, gs, dr, tk0, ost⟩ := by
  obtain ⟨oD, _, _, hoD, _, _⟩ := hns.count hw
  have J : InstAt hpz x { cls := .ref C, dict := some dx, data := .fields fv } C (some oD) := ⟨hx, rfl, rfl, hoD⟩
  have S := F.store_object
  have subc : Looks (model pg w) hpz (isInstance (.ref x) (.type "object")) true :=
    J.type.andThen (looks_mroIn X (by
      unfold mroIn
      rw [hcd, Option.bind_some, if_neg (by rw [O.ne]; decide), O.ob]))
  refine codeAny_call_builtin S.slot.plain S.entry ?_
  refine @check_slot (model pg w) _ _ ⟨hpz, gs, dr, tk0, ost⟩ "object.__setattr__" "object" "__setattr__" (.ref x) [.str name tk, v] [] _ S.kind S.split subc (S.args (.ref x) (.str name tk) v) ?_
  have m1 : Looks (model pg w) hpz (mroOf (.ref C)) cd.mro := (looks_clsIn X hcd).andThen .now
  have m2 : Looks (model pg w) hpz (storeTaker? none) none := .now
  have m3 : Looks (model pg w) hpz (classData C) cd := looks_clsIn X hcd
  rw [osa_eq, refuse_eq]
  refine wpAny_bind (wpAny_bind (J.type.at (wpAny_bind (m1.at ?_))))
  rw [O.ps]
  refine wpAny_pure (wpAny_bind (J.type.at (wpAny_bind ((looks_findIn X ha).at (wpAny_bind (m2.at ?_))))))
  show wpAny _ _ (storeInOwnDict (.ref x) (.ref C) (.str name tk) name v false)
    _ _ _
  have hh := O.hd
  obtain ⟨nam, bss, mro, ns, qn, hdd, snl, sb, abst, coll, del⟩ := cd
  dsimp only at hh
  subst hh
  unfold storeInOwnDict
    ownDictForStores
  repeat (first
    | with_reducible refine OEX.store_in_old hns hw hz ?_
    | with_reducible refine wpAny_loadPart_at hx ?_
    | with_reducible refine m3.at ?_
    | wp_step)
  intro h' tk' hn' same
  exact hq h' tk' (fun b o hb ho => (same.2 b hb).trans ho) hn'
end
end XK
end
section
set_option Elab.async false
set_option linter.all false
set_option maxRecDepth 100000
set_option maxHeartbeats 4100000
namespace XK
open PySem PySem.W PySem.Calls PySem.HandSPX
open PyProof.Rows (envOfC)
/-! ### the text of an __init__ that keeps one field -/
def aOne (f : Str) (p1 p2 : Pos) : Arguments := { posonlyargs := [], args := [{ arg := "self", annotation := none, pos := p1 }, { arg := f, annotation := none, pos := p2 }], vararg := none, kwonlyargs := [], kw_defaults := [], kwarg := none, defaults := [] }
def bOne (f : Str) (q1 q2 q3 q4 : Pos) : List Stmt := [.Assign [.Attribute (.Name "self" q1) f q2] (.Name f q3) q4]
def sOne (f : Str) : Scope := { kind := .function, names := [(PySem.Str.ofString "self", .local), (f, .local)], isGenerator := false, isCoroutine := false, more := [] }
/-- what the written part says of an own exception class -/
structure XT (K : Frag) (C : Addr) : Prop where
  base : ∃ (B newId initId : String) (bmB : List Value), ExcBaseFacts B newId initId bmB ∧ excInitIn K C bmB newId = true
  opn : ∃ cd, clsIn K C = some cd ∧ Opn cd
  sa : findIn K (.ref C) "__setattr__" = some (some (.builtin "object.__setattr__"))
  ga : findIn K (.ref C) "__getattribute__" = some (some (.builtin "BaseException.__getattribute__"))
  gg : findIn K (.ref C) "__getattr__" = some none
  exC : subIn K (.ref C) (.type "BaseException") = some true
  kC : keepIn K (.ref C) = true
  hd : hasDictIn K C = true
  ac : findIn K (.ref C) "__class__" = some (some (.builtin "object.__class__"))
  gn : specialIn K (.builtin "object.__class__") "__get__" = some (some (.builtin "getset_descriptor.__get__"))
  tk : takesIn K (.builtin "object.__class__") = some true
  mo : mroIn K C (.type "object") = some true
/-- .. and of its __init__, which keeps the one field f -/
structure XI (K : Frag) (C : Addr) (f : Str) : Prop where
  noN : findIn K (.ref C) f = some none
  ne : f ≠ "self"
  fn : ∃ (fI : Addr) (qn : Str) (oc : Value) (od : Option Addr) (doc pm : Value) (an : Option Addr) (cdv ct : Value) (osl : Array (Option Value)) (p1 p2 q1 q2 q3 q4 : Pos),
    findIn K (.ref C) "__init__" = some (some (.ref fI)) ∧ typeIn K (.ref fI) = some (.type "function") ∧
    K.lookup fI = some ⟨oc, od, .func (fnOf "__init__" qn (aOne f p1 p2) (bOne f q1 q2 q3 q4) (sOne f) .none .none doc pm an cdv ct), osl⟩ ∧ codeIn K cdv qn = true ∧
    (∀ s x v, BindsTo s (fnOf "__init__" qn (aOne f p1 p2) (bOne f q1 q2 q3 q4) (sOne f) .none .none doc pm an cdv ct) ⟨[x, v], []⟩ [("self", x), (f, v)]) ∧
    (∀ s x v, BindsTo s (fnOf "__init__" qn (aOne f p1 p2) (bOne f q1 q2 q3 q4) (sOne f) .none .none doc pm an cdv ct) ⟨[x], [(f, v)]⟩ [("self", x), (f, v)])
theorem look_self (f : Str) : (sOne f).names.lookup ("self" : Str) = some NameKind.local := rfl
theorem look_f (f : Str) : (sOne f).names.lookup f = some NameKind.local := by
  show List.lookup f [(PySem.Str.ofString "self", NameKind.local), (f, NameKind.local)] = some .local
  by_cases h : f = PySem.Str.ofString "self"
  · rw [h]
    simp [List.lookup]
  · have e : (f == PySem.Str.ofString "self") = false := by simpa using h
    simp [List.lookup, e]
theorem load_local {M : Model} {s : Shared} {name : Str} {scope : Scope} {L a : Addr} {cd : Value} {m : Str → Option Value} {x : Str} {pos : Pos} {v : Value} {Q : Value → Shared → Prop} {A : Around} {E : Value → Shared → Prop}
    (hk : scope.kind = .function) (hl : scope.names.lookup x = some .local) (hd : (x == ("__debug__" : Str)) = false) (hn : s.heap.Ns L m) (hv : m x = some v) (h : Q v s) :
    wpAny M A (eval (.Name x pos) (envOfC name scope L a cd)) Q E s := wpAny_Name (wpAny_loadName_local hk hl hn hv h) hd
/-- a made exception: e, its own dict at d with the fields m -/
structure Made (h h' : Heap) (e C d : Addr) (m : Str → Option Value) : Prop where
  keep : ∀ b o, h.get? b = some o → h'.get? b = some o
  eb : h.objs.size ≤ e
  db : h.objs.size ≤ d
  ne : d ≠ e
  obj : ∃ t0 : Addr, h'.get? e = some ({ cls := .ref C, dict := some d, data := .fields #[.ref t0, .none, .none, .none, .bool false, .none] } : Obj)
  ns : h'.Ns1 d m
section
variable {prog : Program} {w : World} {A : Around} {E : Value → Shared → Prop} {R : Result → Shared → Prop} {s : Shared} {K : Frag} {C : Addr} {f : Str} {v : Value}
theorem made_one (T : XT K C) (I : XI K C f) (hdb : (f == ("__debug__" : Str)) = false) (X : K.In s.heap) (hlim : s.heap.NoLimit) (room : A.depth + 1 < recursionLimit) (us : List Value) (kw : List (Str × Value)) (hp : (us = [v] ∧ kw = []) ∨ (us = [] ∧ kw = [(f, v)]))
    (hq : ∀ h' tk e d, Made s.heap h' e C d (fun y => if y = f then some v else none) → R (.ok (.ret (.ref e))) { s with heap := h', toks := tk }) :
    codeAny (model prog w) A (.call (.ref C) ⟨us, kw⟩) R s := by
  obtain ⟨B, newId, initId, bmB, F, ini⟩ := T.base
  obtain ⟨cd, hcd, O⟩ := T.opn
  obtain ⟨fI, qn, oc, od, doc, pm, an, cdv, ct, osl, p1, p2, q1, q2, q3, q4, iC, tC, lf, co, b1, b2⟩ := I.fn
  obtain ⟨nm, N, q, bs, bm, hdct, sn, sub, ab, col, dd, k0, k1, k2, k3, k5, gC, hT⟩ := excInit_of X ini
  obtain ⟨hp0, g, dr, tk, os⟩ := s
  have ul : us.length ≤ sizeLine := by
    rcases hp with ⟨rfl, _⟩ | ⟨rfl, _⟩
    · show 1 ≤ sizeLine
      rw [sizeLine_eq]
      decide
    · exact Nat.zero_le _
  have bd : ∀ s x, BindsTo s (fnOf "__init__" qn (aOne f p1 p2) (bOne f q1 q2 q3 q4) (sOne f) .none .none doc pm an cdv ct) ⟨x :: us, kw⟩ [("self", x), (f, v)] := fun s x => by
    rcases hp with ⟨rfl, rfl⟩ | ⟨rfl, rfl⟩
    · exact b1 s x v
    · exact b2 s x v
  have k : ∀ b o, hp0.get? b = some o → ((hp0.push (kdv_tup us)).push (excO C hp0.objs.size)).get? b = some o := fun b o e => Heap.get?_push_of_some _ (Heap.get?_push_of_some _ e)
  have got : ((hp0.push (kdv_tup us)).push (excO C hp0.objs.size)).get? (hp0.objs.size + 1) = some (excO C hp0.objs.size) := by heap_get
  refine called F hT ul gC (looks_findIn X iC) (fun self => bind_fn X self tC) ?_
  have X1 := X.keeps k
  refine Att.call_fn (binds := [("self", .ref (hp0.objs.size + 1)), (f, v)]) (s := ⟨(hp0.push (kdv_tup us)).push (excO C hp0.objs.size), g, dr, tk, os⟩) X1 (hlim.keeps k) lf co ?_ (bd _ _) ?_ (fun s₁ IC => ?_) rfl rfl rfl
  · show A.depth + 1 < recursionLimit
    exact room
  · simp only [List.all_cons, List.all_nil, look_f f, Bool.and_true]
    rfl
  · obtain ⟨h₁, tk₁, rfl⟩ := IC.toInCall.same
    have k1 := IC.toInCall.keep
    have hn := IC.toInCall.ns
    have hx := k1 _ _ got
    have X2 : K.In h₁ := X1.keeps k1
    have e1 : (envOfC qn (sOne f) ((hp0.push (kdv_tup us)).push (excO C hp0.objs.size)).objs.size fI cdv).kindOf "self" = some .local := look_self f
    have e2 : (envOfC qn (sOne f) ((hp0.push (kdv_tup us)).push (excO C hp0.objs.size)).objs.size fI cdv).kindOf f = some .local := look_f f
    show wpAny _ _ (execs _ _) _ _ _
    refine wpAny_execs_cons (plainObj_wpAny_Assign_Attribute ?_)
    refine load_local (v := v) rfl (look_f f) hdb hn ?_ (load_local (v := .ref (hp0.objs.size + 1)) rfl (look_self f) (by decide) hn ?_ ?_)
    · simp only [bindL, e1, e2, if_true]
    · simp only [bindL, e1, e2, if_true]
      rw [if_neg (fun z => I.ne z.symm)]
    refine set_plain X2 (ox := excO C hp0.objs.size) (od := none) ⟨hx, rfl, rfl, trivial⟩ T.sa ?_
    refine first_field X2 hx hcd O I.noN fun h₃ tk₃ dx k₃ dn dne hx₃ hn₃ => ?_
    show wpAny _ _ (execs _ _) _ _ _
    have z0 : hp0.objs.size ≤ h₁.objs.size := Nat.le_of_lt (Nat.lt_of_succ_lt (show hp0.objs.size + 1 < h₁.objs.size from Heap.lt_size hx))
    refine wpAny_execs_nil ⟨rfl, hq h₃ tk₃ (hp0.objs.size + 1) dx ⟨fun b o e => ?_, Nat.le_succ _, Nat.le_trans z0 dn, dne, ⟨_, hx₃⟩, hn₃⟩⟩
    exact k₃ b o (Nat.ne_of_lt (Nat.lt_succ_of_lt (Heap.lt_size e))) (k1 _ _ (k _ _ e))
end
/-! ### two fields -/
def aTwo (f1 f2 : Str) (p1 p2 p3 : Pos) : Arguments := { posonlyargs := [], args := [{ arg := "self", annotation := none, pos := p1 }, { arg := f1, annotation := none, pos := p2 }, { arg := f2, annotation := none, pos := p3 }], vararg := none, kwonlyargs := [], kw_defaults := [], kwarg := none, defaults := [] }
def bTwo (f1 f2 : Str) (q1 q2 q3 q4 r1 r2 r3 r4 : Pos) : List Stmt := [.Assign [.Attribute (.Name "self" q1) f1 q2] (.Name f1 q3) q4, .Assign [.Attribute (.Name "self" r1) f2 r2] (.Name f2 r3) r4]
def sTwo (f1 f2 : Str) : Scope := { kind := .function, names := [(PySem.Str.ofString "self", .local), (f1, .local), (f2, .local)], isGenerator := false, isCoroutine := false, more := [] }
structure XJ (K : Frag) (C : Addr) (f1 f2 : Str) : Prop where
  no1 : findIn K (.ref C) f1 = some none
  no2 : findIn K (.ref C) f2 = some none
  ne1 : f1 ≠ "self"
  ne2 : f2 ≠ "self"
  ne : f1 ≠ f2
  fn : ∃ (fI : Addr) (qn : Str) (oc : Value) (od : Option Addr) (doc pm : Value) (an : Option Addr) (cdv ct : Value) (osl : Array (Option Value)) (p1 p2 p3 q1 q2 q3 q4 r1 r2 r3 r4 : Pos),
    findIn K (.ref C) "__init__" = some (some (.ref fI)) ∧ typeIn K (.ref fI) = some (.type "function") ∧
    K.lookup fI = some ⟨oc, od, .func (fnOf "__init__" qn (aTwo f1 f2 p1 p2 p3) (bTwo f1 f2 q1 q2 q3 q4 r1 r2 r3 r4) (sTwo f1 f2) .none .none doc pm an cdv ct), osl⟩ ∧ codeIn K cdv qn = true ∧
    (∀ s x u v, BindsTo s (fnOf "__init__" qn (aTwo f1 f2 p1 p2 p3) (bTwo f1 f2 q1 q2 q3 q4 r1 r2 r3 r4) (sTwo f1 f2) .none .none doc pm an cdv ct) ⟨[x, u, v], []⟩ [("self", x), (f1, u), (f2, v)]) ∧
    (∀ s x u v, BindsTo s (fnOf "__init__" qn (aTwo f1 f2 p1 p2 p3) (bTwo f1 f2 q1 q2 q3 q4 r1 r2 r3 r4) (sTwo f1 f2) .none .none doc pm an cdv ct) ⟨[x], [(f2, v), (f1, u)]⟩ [("self", x), (f1, u), (f2, v)])
theorem look2_self (f1 f2 : Str) : (sTwo f1 f2).names.lookup ("self" : Str) = some NameKind.local := rfl
theorem look2_1 (f1 f2 : Str) : (sTwo f1 f2).names.lookup f1 = some NameKind.local := by
  show List.lookup f1 [(PySem.Str.ofString "self", NameKind.local), (f1, NameKind.local), (f2, NameKind.local)] = some .local
  by_cases h : f1 = PySem.Str.ofString "self"
  · rw [h]
    simp [List.lookup]
  · have e : (f1 == PySem.Str.ofString "self") = false := by simpa using h
    simp [List.lookup, e]
theorem look2_2 (f1 f2 : Str) : (sTwo f1 f2).names.lookup f2 = some NameKind.local := by
  show List.lookup f2 [(PySem.Str.ofString "self", NameKind.local), (f1, NameKind.local), (f2, NameKind.local)] = some .local
  by_cases h : f2 = PySem.Str.ofString "self"
  · rw [h]
    simp [List.lookup]
  · have e : (f2 == PySem.Str.ofString "self") = false := by simpa using h
    by_cases h1 : f2 = f1
    · subst h1
      simp [List.lookup, e]
    · have e1 : (f2 == f1) = false := by simpa using h1
      simp [List.lookup, e, e1]
section
variable {prog : Program} {w : World} {A : Around} {E : Value → Shared → Prop} {R : Result → Shared → Prop} {s : Shared} {K : Frag} {C : Addr} {f1 f2 : Str} {u v : Value}
theorem made_two (T : XT K C) (I : XJ K C f1 f2) (hd1 : (f1 == ("__debug__" : Str)) = false) (hd2 : (f2 == ("__debug__" : Str)) = false) (X : K.In s.heap) (hlim : s.heap.NoLimit) (room : A.depth + 1 < recursionLimit) (us : List Value) (kw : List (Str × Value))
    (hp : (us = [u, v] ∧ kw = []) ∨ (us = [] ∧ kw = [(f2, v), (f1, u)]))
    (hq : ∀ h' tk e d, Made s.heap h' e C d (fun y => if y = f2 then some v else if y = f1 then some u else none) → R (.ok (.ret (.ref e))) { s with heap := h', toks := tk }) :
    codeAny (model prog w) A (.call (.ref C) ⟨us, kw⟩) R s := by
  obtain ⟨B, newId, initId, bmB, F, ini⟩ := T.base
  obtain ⟨cd, hcd, O⟩ := T.opn
  obtain ⟨fI, qn, oc, od, doc, pm, an, cdv, ct, osl, p1, p2, p3, q1, q2, q3, q4, r1, r2, r3, r4, iC, tC, lf, co, b1, b2⟩ := I.fn
  obtain ⟨nm, N, q, bs, bm, hdct, sn, sub, ab, col, dd, k0, k1, k2, k3, k5, gC, hT⟩ := excInit_of X ini
  obtain ⟨hp0, g, dr, tk, os⟩ := s
  have ul : us.length ≤ sizeLine := by
    rcases hp with ⟨rfl, _⟩ | ⟨rfl, _⟩
    · show 2 ≤ sizeLine
      rw [sizeLine_eq]
      decide
    · exact Nat.zero_le _
  have bd : ∀ s x, BindsTo s (fnOf "__init__" qn (aTwo f1 f2 p1 p2 p3) (bTwo f1 f2 q1 q2 q3 q4 r1 r2 r3 r4) (sTwo f1 f2) .none .none doc pm an cdv ct) ⟨x :: us, kw⟩ [("self", x), (f1, u), (f2, v)] := fun s x => by
    rcases hp with ⟨rfl, rfl⟩ | ⟨rfl, rfl⟩
    · exact b1 s x u v
    · exact b2 s x u v
  have k : ∀ b o, hp0.get? b = some o → ((hp0.push (kdv_tup us)).push (excO C hp0.objs.size)).get? b = some o := fun b o e => Heap.get?_push_of_some _ (Heap.get?_push_of_some _ e)
  have got : ((hp0.push (kdv_tup us)).push (excO C hp0.objs.size)).get? (hp0.objs.size + 1) = some (excO C hp0.objs.size) := by heap_get
  refine called F hT ul gC (looks_findIn X iC) (fun self => bind_fn X self tC) ?_
  have X1 := X.keeps k
  refine Att.call_fn (binds := [("self", .ref (hp0.objs.size + 1)), (f1, u), (f2, v)]) (s := ⟨(hp0.push (kdv_tup us)).push (excO C hp0.objs.size), g, dr, tk, os⟩) X1 (hlim.keeps k) lf co ?_ (bd _ _) ?_ (fun s₁ IC => ?_) rfl rfl rfl
  · show A.depth + 1 < recursionLimit
    exact room
  · simp only [List.all_cons, List.all_nil, look2_1 f1 f2, look2_2 f1 f2, Bool.and_true]
    rfl
  · obtain ⟨h₁, tk₁, rfl⟩ := IC.toInCall.same
    have k1 := IC.toInCall.keep
    have hn := IC.toInCall.ns
    have hx := k1 _ _ got
    have X2 : K.In h₁ := X1.keeps k1
    have e0 : (envOfC qn (sTwo f1 f2) ((hp0.push (kdv_tup us)).push (excO C hp0.objs.size)).objs.size fI cdv).kindOf "self" = some .local := look2_self f1 f2
    have e1 : (envOfC qn (sTwo f1 f2) ((hp0.push (kdv_tup us)).push (excO C hp0.objs.size)).objs.size fI cdv).kindOf f1 = some .local := look2_1 f1 f2
    have e2 : (envOfC qn (sTwo f1 f2) ((hp0.push (kdv_tup us)).push (excO C hp0.objs.size)).objs.size fI cdv).kindOf f2 = some .local := look2_2 f1 f2
    show wpAny _ _ (execs _ _) _ _ _
    refine wpAny_execs_cons (plainObj_wpAny_Assign_Attribute ?_)
    refine load_local (v := u) rfl (look2_1 f1 f2) hd1 hn ?_ (load_local (v := .ref (hp0.objs.size + 1)) rfl (look2_self f1 f2) (by decide) hn ?_ ?_)
    · simp only [bindL, e0, e1, e2, if_true]
      rw [if_neg I.ne]
    · simp only [bindL, e0, e1, e2, if_true]
      rw [if_neg (fun z => I.ne2 z.symm), if_neg (fun z => I.ne1 z.symm)]
    refine set_plain X2 (ox := excO C hp0.objs.size) (od := none) ⟨hx, rfl, rfl, trivial⟩ T.sa ?_
    refine first_field X2 hx hcd O I.no1 fun h₃ tk₃ dx k₃ dn dne hx₃ hn₃ => ?_
    have z1 : hp0.objs.size + 1 < h₁.objs.size := Heap.lt_size hx
    have z0 : hp0.objs.size ≤ h₁.objs.size := Nat.le_of_lt (Nat.lt_of_succ_lt z1)
    have nx : ∀ {b : Addr} {o : Obj}, hp0.get? b = some o → b ≠ hp0.objs.size + 1 := fun {b o} e => Nat.ne_of_lt (Nat.lt_succ_of_lt (Heap.lt_size e))
    have Lx : ((hp0.push (kdv_tup us)).push (excO C hp0.objs.size)).objs.size ≠ hp0.objs.size + 1 := by
      rw [Heap.size_push,
            Heap.size_push]
      exact Nat.succ_ne_self _
    have hn3 : h₃.Ns ((hp0.push (kdv_tup us)).push (excO C hp0.objs.size)).objs.size _ := Heap.Ns.at hn fun o e => k₃ _ o Lx e
    have X3 : K.In h₃ := fun b o e => k₃ b o (nx (X _ _ e)) (X2 b o e)
    show wpAny _ _ (execs _ _) _ _ _
    refine wpAny_execs_cons (plainObj_wpAny_Assign_Attribute ?_)
    refine load_local (v := v) rfl (look2_2 f1 f2) hd2 hn3 ?_ (load_local (v := .ref (hp0.objs.size + 1)) rfl (look2_self f1 f2) (by decide) hn3 ?_ ?_)
    · simp only [bindL, e0, e1, e2, if_true]
    · simp only [bindL, e0, e1, e2, if_true]
      rw [if_neg (fun z => I.ne2 z.symm), if_neg (fun z => I.ne1 z.symm)]
    have hw : Within (fun y => if y = f1 then some u else none) [f1] := fun y hy => by
      by_cases e : y = f1
      · rw [e]
        exact List.mem_cons_self ..
      · exact absurd (if_neg e) hy
    obtain ⟨oD, _, _, hoD, _, _⟩ := hn₃.count hw
    refine set_plain X3 (ox := { cls := .ref C, dict := some dx, data := .fields #[.ref hp0.objs.size, .none, .none, .none, .bool false, .none] }) (od := some oD) ⟨hx₃, rfl, rfl, hoD⟩ T.sa ?_
    refine next_field X3 hx₃ hn₃ hw (by show 1 ≤ 1000; decide) hcd O I.no2 fun h₄ tk₄ k₄ hn₄ => ?_
    show wpAny _ _ (execs _ _) _ _ _
    have nd : ∀ {b : Addr} {o : Obj}, hp0.get? b = some o → b ≠ dx := fun {b o} e => Nat.ne_of_lt (Nat.lt_of_lt_of_le (Nat.lt_of_lt_of_le (Heap.lt_size e) z0) dn)
    refine wpAny_execs_nil ⟨rfl, hq h₄ tk₄ (hp0.objs.size + 1) dx ⟨fun b o e => ?_, Nat.le_succ _, Nat.le_trans z0 dn, dne, ⟨_, k₄ _ _ (Ne.symm dne) hx₃⟩, hn₄⟩⟩
    exact k₄ b o (nd e) (k₃ b o (nx e) (k1 _ _ (k _ _ e)))
end
end XK
end
section
set_option Elab.async false
set_option linter.all false
set_option maxRecDepth 100000
set_option maxHeartbeats 4100000
namespace XK
open PySem PySem.Spec PyProof.Rows L2
section
variable {X : Cx} {pins : List (Addr × Obj)} {σ : L2.St} {H : Hp} {s : Shared} {C : Addr}
/-- a made exception is tracked, and its own dict -/
theorem tracked {h' : Heap} {e d : Addr} {m : Str → Option Value} {fs : List (Str × V)} (t' : Nat) (I : Inv X pins σ H s) (M : Made s.heap h' e C d m) (r : ∀ f, RelO (fs.lookup f) (m f)) :
    Inv X pins σ (upd (upd H d (.xd fs)) e (exo e C (some d))) { s with heap := h', toks := t' } := by
  have nd : H d = none := I.hok.fresh M.db
  have ne : H e = none := I.hok.fresh M.eb
  have ned : upd H d (.xd fs) e = none := by
    rw [upd_ne (Ne.symm M.ne)]
    exact ne
  have U1 : Un X.fs [] H (upd H d (.xd fs)) s.heap s.heap := Un.laid (fun _ _ q => q) M.db nd
  have U2 : Un X.fs [] (upd H d (.xd fs)) (upd (upd H d (.xd fs)) e (exo e C (some d))) s.heap h' := Un.laid M.keep M.eb ned
  obtain ⟨t0, ho⟩ := M.obj
  refine I.un (t' := t') (U1.trans U2) fun b o q => ?_
  by_cases hb : b = e
  · subst hb
    rw [upd_same] at q
    cases q
    exact exo_ok ho
  · rw [upd_ne hb] at q
    by_cases hd : b = d
    · subst hd
      rw [upd_same] at q
      cases q
      exact ⟨m, M.ns, r⟩
    · rw [upd_ne hd] at q
      refine (I.hok b o q).stay (fun c v _ z => M.keep c v z) (fun c z => ?_) fun c xs z => ?_
      · rw [upd_ne (ne_of_none z ne), upd_ne (ne_of_none z nd)]
        exact z
      · rw [upd_ne (ne_of_none z ne), upd_ne (ne_of_none z nd)]
        exact z
theorem rel_one {f : Str} {y : V} {u : Value} (r : RelV y u) (g : Str) : RelO ([(f, y)].lookup g) (if g = f then some u else none) := relO_put (fs := []) (mA := fun _ => none) r (fun _ => trivial) g
theorem rel_two {f1 f2 : Str} {y z : V} {u v : Value} (r : RelV y u) (r' : RelV z v) (g : Str) : RelO ([(f2, z), (f1, y)].lookup g) (if g = f2 then some v else if g = f1 then some u else none) :=
  relO_put (fs := [(f1, y)]) r' (rel_one r) g
/-- what follows a made exception -/
def Then1 (C : Addr) (f : Str) (v : V) (H : Hp) (Q : VK) : Prop := ∀ d e, H d = none → H e = none → d ≠ e → Q (.ref e) (upd (upd H d (.xd [(f, v)])) e (exo e C (some d)))
def Then2 (C : Addr) (f1 f2 : Str) (u v : V) (H : Hp) (Q : VK) : Prop := ∀ d e, H d = none → H e = none → d ≠ e → Q (.ref e) (upd (upd H d (.xd [(f2, v), (f1, u)])) e (exo e C (some d)))
def tEx1 (C : Addr) (f : Str) (ta : TA) : TE := fun σ H Q => ta σ H fun vs H1 => ∃ v, vs = [v] ∧ Then1 C f v H1 Q
def tEx2 (C : Addr) (f1 f2 : Str) (ta : TA) : TE := fun σ H Q => ta σ H fun vs H1 => ∃ u v, vs = [u, v] ∧ Then2 C f1 f2 u v H1 Q
def tEx2k (C : Addr) (f1 f2 : Str) (ta : TA) : TE := fun σ H Q => ta σ H fun vs H1 => ∃ v u, vs = [v, u] ∧ Then2 C f1 f2 u v H1 Q
end
section
variable {X : Cx} {x f f1 f2 : Str} {C : Addr} {k : Nat} {a b : Expr} {ta : TA} {te : TE} {p pos k1 k2 : Pos}
/-- x(a), an own exception class whose __init__ keeps one field -/
theorem pe_ex1 (T : XT X.K C) (J : XI X.K C f) (hr : Room k X.A) (gC : X.mg x = some (.ref C)) (hfd : (f == ("__debug__" : Str)) = false) (ha : PA X [a] ta) (hg : Gl X x := by rfl) (hdb : (x == ("__debug__" : Str)) = false := by decide)
    (he : starEach (a :: []) X.env = (false, eval a X.env) :: starEach [] X.env := by rfl) (hpl : (backTo pos (starEach [] X.env)).any (·.1) = false := by rfl) :
    PE X (.Call (.Name x p) [a] [] pos) (tEx1 C f ta) := by
  refine ⟨fun pins s σ H Q I h => ?_⟩
  refine wpAny_Call_Name_kw
        (ld_glob I hg gC ?_ hdb)
  refine PySem.W.callWith_K (h₀ := X.base) I.ok.mod.kin T.kC (thn (ha.run pos pins s σ H _ I h) fun us s1 hh => ?_) he hpl
  obtain ⟨vs, H1, I1, r1, v, ev, q1⟩ := hh
  subst ev
  refine ⟨I1.kIn, ?_⟩
  cases r1 with
  | cons rv rn =>
    rename_i v' us'
    cases rn
    show wpAny _ _ (call (.ref C) [v']) _ _ _
    refine wpAny_call (made_one (v := v') T J hfd I1.kIn I1.nolimit (by have := hr.dp; omega) [v'] [] (.inl ⟨rfl, rfl⟩) fun h' tk e d M => ?_)
    exact ⟨.ref e, _, tracked tk I1 M (rel_one rv), rfl, q1 d e (I1.hok.fresh M.db) (I1.hok.fresh M.eb) M.ne⟩
/-- x(f = a) -/
theorem pe_ex1k (T : XT X.K C) (J : XI X.K C f) (hr : Room k X.A) (gC : X.mg x = some (.ref C)) (hfd : (f == ("__debug__" : Str)) = false) (ha : PE X a te) (hg : Gl X x := by rfl) (hdb : (x == ("__debug__" : Str)) = false := by decide)
    (hpl : ((backTo pos (starEach [] X.env)).any (·.1) || (backToKw pos (keywordEach [⟨some f, a, k1⟩] X.env)).any (·.1.isNone)) = false := by rfl) :
    PE X (.Call (.Name x p) [] [⟨some f, a, k1⟩] pos) (tEx1 C f (tCons te tNil)) := by
  refine ⟨fun pins s σ H Q I h => ?_⟩
  refine wpAny_Call_Name_kw
        (ld_glob I hg gC ?_ hdb)
  refine PySem.W.callWith_KW0 (h₀ := X.base) I.ok.mod.kin T.kC rfl ?_ hpl
  refine thn ((pk_cons ha pk_nil).run pos pins s σ H _ I h) fun us s1 hh => ?_
  obtain ⟨vs, H1, I1, r1, v, ev, q1⟩ := hh
  subst ev
  refine ⟨I1.kIn, ?_⟩
  cases r1 with
  | cons rv rn =>
    rename_i v' us'
    cases rn
    show wpAny _ _ (call (.ref C) [] [(f, v')]) _ _ _
    refine wpAny_call (made_one (v := v') T J hfd I1.kIn I1.nolimit (by have := hr.dp; omega) [] [(f, v')] (.inr ⟨rfl, rfl⟩) fun h' tk e d M => ?_)
    exact ⟨.ref e, _, tracked tk I1 M (rel_one rv), rfl, q1 d e (I1.hok.fresh M.db) (I1.hok.fresh M.eb) M.ne⟩
/-- x(a, b) -/
theorem pe_ex2 (T : XT X.K C) (J : XJ X.K C f1 f2) (hr : Room k X.A) (gC : X.mg x = some (.ref C)) (h1 : (f1 == ("__debug__" : Str)) = false) (h2 : (f2 == ("__debug__" : Str)) = false) (ha : PA X [a, b] ta) (hg : Gl X x := by rfl) (hdb : (x == ("__debug__" : Str)) = false := by decide)
    (he : starEach (a :: [b]) X.env = (false, eval a X.env) :: starEach [b] X.env := by rfl) (hpl : (backTo pos (starEach [b] X.env)).any (·.1) = false := by rfl) :
    PE X (.Call (.Name x p) [a, b] [] pos) (tEx2 C f1 f2 ta) := by
  refine ⟨fun pins s σ H Q I h => ?_⟩
  refine wpAny_Call_Name_kw
        (ld_glob I hg gC ?_ hdb)
  refine PySem.W.callWith_K (h₀ := X.base) I.ok.mod.kin T.kC (thn (ha.run pos pins s σ H _ I h) fun us s1 hh => ?_) he hpl
  obtain ⟨vs, H1, I1, r1, u, v, ev, q1⟩ := hh
  subst ev
  refine ⟨I1.kIn, ?_⟩
  cases r1 with
  | @cons _ u' _ _ ru rn =>
    cases rn with
    | @cons _ v' _ _ rv rn =>
      cases rn
      show wpAny _ _ (call (.ref C) [u', v']) _ _ _
      refine wpAny_call (made_two (u := u') (v := v') T J h1 h2 I1.kIn I1.nolimit (by have := hr.dp; omega) [u', v'] [] (.inl ⟨rfl, rfl⟩) fun h' tk e d M => ?_)
      exact ⟨.ref e, _, tracked tk I1 M (rel_two ru rv), rfl, q1 d e (I1.hok.fresh M.db) (I1.hok.fresh M.eb) M.ne⟩
/-- x(f2 = b, f1 = a) -/
theorem pe_ex2k {te1 te2 : TE} (T : XT X.K C) (J : XJ X.K C f1 f2) (hr : Room k X.A) (gC : X.mg x = some (.ref C)) (h1 : (f1 == ("__debug__" : Str)) = false) (h2 : (f2 == ("__debug__" : Str)) = false) (hb : PE X b te2) (ha : PE X a te1) (hg : Gl X x := by rfl) (hdb : (x == ("__debug__" : Str)) = false := by decide)
    (hpl : ((backTo pos (starEach [] X.env)).any (·.1) || (backToKw pos (keywordEach [⟨some f2, b, k2⟩, ⟨some f1, a, k1⟩] X.env)).any (·.1.isNone)) = false := by rfl) :
    PE X (.Call (.Name x p) [] [⟨some f2, b, k2⟩, ⟨some f1, a, k1⟩] pos) (tEx2k C f1 f2 (tCons te2 (tCons te1 tNil))) := by
  refine ⟨fun pins s σ H Q I h => ?_⟩
  refine wpAny_Call_Name_kw
        (ld_glob I hg gC ?_ hdb)
  refine PySem.W.callWith_KW0 (h₀ := X.base) I.ok.mod.kin T.kC rfl ?_ hpl
  refine thn ((pk_cons hb (pk_cons ha pk_nil)).run pos pins s σ H _ I h) fun us s1 hh => ?_
  obtain ⟨vs, H1, I1, r1, v, u, ev, q1⟩ := hh
  subst ev
  refine ⟨I1.kIn, ?_⟩
  cases r1 with
  | @cons _ v' _ _ rv rn =>
    cases rn with
    | @cons _ u' _ _ ru rn =>
      cases rn
      show wpAny _ _ (call (.ref C) [] [(f2, v'), (f1, u')]) _ _ _
      refine wpAny_call (made_two (u := u') (v := v') T J h1 h2 I1.kIn I1.nolimit (by have := hr.dp; omega) [] [(f2, v'), (f1, u')] (.inr ⟨rfl, rfl⟩) fun h' tk e d M => ?_)
      exact ⟨.ref e, _, tracked tk I1 M (rel_two ru rv), rfl, q1 d e (I1.hok.fresh M.db) (I1.hok.fresh M.eb) M.ne⟩
/-- x(), an own exception class without __init__ -/
def tEx0 (C : Addr) : TE := fun σ H Q => ∀ e, H e = none → Q (.ref e) (upd H e (exo e C none))
theorem pe_ex0 {B newId initId : String} {bmB : List Value} (F : ExcBaseFacts B newId initId bmB) (q : PySem.W.excIn X.K C bmB newId = true) (gC : X.mg x = some (.ref C)) (kC : PySem.W.keepIn X.K (.ref C) = true) (hg : Gl X x := by rfl) (hdb : (x == ("__debug__" : Str)) = false := by decide) :
    PE X (.Call (.Name x p) [] [] pos) (tEx0 C) := by
  refine ⟨fun pins s σ H Q I h => ?_⟩
  refine wpAny_Call_Name_kw
        (ld_glob I hg gC ?_ hdb)
  refine PySem.W.callWith_K0 I.kIn kC ?_
  show wpAny _ _ (call (.ref C) []) _ _ _
  obtain ⟨bm, N, nm, qn, bs, hdct, sn, sub, ab, col, dd, k0, k1, k2, k3, k5, mN, hC, hN, hni, T⟩ := exc_obj I.kIn q
  obtain ⟨hp, g, dr, tk, os⟩ := s
  refine wpAny_call_exc_subT F T hC hN hni (fun h' a hm => ?_) (Nat.zero_le _)
  have hn : H a = none := I.hok.gone hm.new
  obtain ⟨t, ht, _,
        _⟩ := hm.there
  exact ⟨.ref a, upd H a (exo a C none), I.laidN hm.keeps hm.new hn (exo_ok (t1 := t) ht), rfl, h a hn⟩
/-- e.f, e an exception that is told, f one of its fields -/
def tGetX (K : PySem.W.Frag) (f : Str) (te : TE) : TE := fun σ H Q => te σ H fun y H1 => ∃ (e C d : Addr) (fs : List (Str × V)) (v : V), y = .ref e ∧ XT K C ∧ PySem.W.findIn K (.ref C) f = some none ∧ H1 e = some (exo e C (some d)) ∧ H1 d = some (.xd fs) ∧ fs.lookup f = some v ∧ Q v H1
theorem pe_getX {te : TE} (he : PE X a te) (hb : attributeBase a f X.env (eval a X.env) = eval a X.env := by rfl) : PE X (.Attribute a f pos) (tGetX X.K f te) := by
  refine ⟨fun pins s σ H Q I h => ?_⟩
  refine attr_of hb (thn (he.run pins s σ H _ I h) fun u s1 hh => ?_)
  obtain ⟨y, H1, I1, rx, e, C, d, fs, v, ey, T, no, ea, ed, l, q⟩ := hh
  subst ey
  obtain rfl : u = Value.ref e := rx
  obtain ⟨t0, ho⟩ := exo_at I1.hok ea
  obtain ⟨mA, hns, hrel⟩ := (show ObjOk X.prog X.w H1 s1.heap d (.xd fs) from I1.hok d _ ed)
  obtain ⟨od, hod, hl⟩ := lookIn_ns hns
  obtain ⟨w, hw, rw'⟩ := RelO.some_of (v := v) (o := mA f) (by rw [← l]; exact hrel f)
  have J : PySem.W.InstAt s1.heap e _ C (some od) := ⟨ho, rfl, rfl, hod⟩
  exact HandSPX.exc_get I1.kIn J T.ga T.gg T.exC (PySem.W.findObj_own T.hd no rfl (by rw [hl, hw])) (handed_of rw') ⟨v, H1, I1.tok _, rw', q⟩
/-- isinstance(e, c), e an exception that is told -/
def rIsX (K : PySem.W.Frag) : List V → Hp → VK → Prop := fun xs H Q => ∃ (e C : Addr) (d : Option Addr) (c : V) (u : Value) (r : Bool), xs = [.ref e, c] ∧ ClsV c u ∧ XT K C ∧ H e = some (exo e C d) ∧ (∀ dd, d = some dd → ∃ fs, H dd = some (.xd fs)) ∧ PySem.W.kitOne K (.ref C) u = some r ∧ Q (.bl r) H
theorem call_isX : CallR X (.builtin "isinstance") (rIsX X.K) := by
  intro pins s σ
        H xs us Q I r h
  obtain ⟨e, C, d, c, u, z, rfl, k, T, ea, hd, ek, q⟩ := h
  obtain ⟨u1, u2, rfl,
        r1, r2⟩ := vals2 r
  have e2 := k.eq r2
  subst e2
  cases (show u1 = Value.ref e from r1)
  obtain ⟨t0, ho⟩ := exo_at I.hok ea
  have J : ∃ od, PySem.W.InstAt s.heap e ({ cls := .ref C, dict := d, data := .fields #[.ref t0, .none, .none, .none, .bool false, .none] } : Obj) C od := by
    cases d with
    | none => exact ⟨none, ho, rfl, rfl, trivial⟩
    | some dd =>
      obtain ⟨fs, hf⟩ := hd dd rfl
      obtain ⟨mA, hns, _⟩ := (show ObjOk X.prog X.w H s.heap dd (.xd fs) from I.hok dd _ hf)
      obtain ⟨od, hod, _⟩ := lookIn_ns hns
      exact ⟨some od, ho, rfl, rfl, hod⟩
  obtain ⟨od, J⟩ := J
  have hc : (PySem.W.clsIn
        X.K C).isSome = true := by
    obtain ⟨cd, h1, _⟩ := T.opn
    rw [h1]
    rfl
  exact PySem.W.kia_one (PySem.W.kitx_exc hc T.ga T.gg T.exC T.ac T.gn T.tk T.mo) I.kIn J ek (fun z => nomatch z) fun tk => ⟨.bl z, H, I.tok tk, rfl, q⟩
end
end XK
end
section
set_option Elab.async false
set_option linter.all false
set_option maxRecDepth 100000
set_option maxHeartbeats 4100000
namespace XK
open PySem PySem.Spec PyProof.Rows L2
/-! ### repr of data -/
/-- what v is as data, dicts with keys of text or int at the outside as well -/
def flatD : PyData → Bool
  | .none => true
  | .bool _ => true
  | .int _ => true
  | .str _ => true
  | _ => false
theorem flat_reads {h : Heap} {u : Value} {d : PyData} {as : List Addr} (r : Reads h u d as) (f : flatD d = true) : as = [] := by
  cases r <;> first | rfl | cases f
theorem flats_read {h : Heap} : ∀ {us : List Value} {ds : List PyData} {as : List Addr}, ReadsAll h us ds as → ds.all flatD = true → as = []
  | _, _, _, .nil, _ => rfl
  | _, _, _, .cons r t, f => by
    rw [List.all_cons,
          Bool.and_eq_true] at f
    rw [flat_reads r f.1, flats_read t f.2]
    rfl
inductive DX (K : PySem.W.Frag) (H : Hp) : V → PyData → Prop
  | dp {v : V} {d : PyData} : Dp K H v d → DX K H v d
  | dc {a : Addr} {kvs : List (Key × V)} {ks vs : List PyData} : H a = some (.dK kvs) → DpAll K H (kvs.map fun p => kV p.1) ks → DpAll K H (kvs.map (·.2)) vs → ks.all flatD = true → vs.all flatD = true → DX K H (.ref a) (.dict (ks.zip vs))
inductive DXAll (K : PySem.W.Frag) (H : Hp) : List V → List PyData → Prop
  | nil : DXAll K H [] []
  | cons {v : V} {vs : List V} {d : PyData} {ds : List PyData} : DX K H v d → DXAll K H vs ds → DXAll K H (v :: vs) (d :: ds)
mutual
theorem noD {K : PySem.W.Frag} {H : Hp} : ∀ (d : PyData) (v : V), Dp K H v d → d.hasDict = false
  | .none, _, _ => by simp [PyData.hasDict]
  | .bool _, _, _ => by simp [PyData.hasDict]
  | .int _, _, _ => by simp [PyData.hasDict]
  | .str _, _, _ => by simp [PyData.hasDict]
  | .list ds, _, h => by
    cases h with
    | lst _ ha =>
      unfold PyData.hasDict
      exact noDs ds _ ha
  | .tuple ds, _, h => by
    cases h with
    | tup _ ha =>
      unfold PyData.hasDict
      exact noDs ds _ ha
  | .dict _, _, h => by cases h
theorem noDs {K : PySem.W.Frag} {H : Hp} : ∀ (ds : List PyData) (vs : List V), DpAll K H vs ds → PyData.hasDictAll ds = false
  | [], _, _ => by simp [PyData.hasDictAll]
  | d :: ds, _, h => by
    cases h with
    | cons a b =>
      unfold PyData.hasDictAll
      rw [noD d _ a, noDs ds _ b]
      rfl
end
theorem dpAll_length {K : PySem.W.Frag} {H : Hp} : ∀ {vs : List V} {ds : List PyData}, DpAll K H vs ds → vs.length = ds.length
  | _, _, .nil => rfl
  | _, _, .cons _ h => congrArg Nat.succ (dpAll_length h)
section
variable {X : Cx} {pins : List (Addr ×
      Obj)} {σ : L2.St} {H : Hp} {s : Shared}
theorem pairs_vals {P : Program} {w : World} : ∀ {kvs : List (Key × V)} {vs : List (Key × Value)} {es : List DictEntry}, KV kvs vs → Pairs (mixKind P w) es vs →
    Vals (kvs.map fun p => kV p.1) (es.map (·.key)) ∧ Vals (kvs.map (·.2)) (es.map (·.val))
  | _, _, _, .nil, .nil => ⟨.nil, .nil⟩
  | _, _, _, .cons r t, .cons hk hv hp => by
    obtain ⟨a, b⟩ := pairs_vals t hp
    obtain ⟨r1, r2⟩ := r
    refine ⟨.cons ?_ a, .cons ?_ b⟩
    · show RelV (kV _) _
      rw [r1]
      rcases keyIs_shape (show keyIs _ _ = true from hk) with ⟨i, tk, e1, e2⟩ | ⟨x, tk, e1, e2⟩
      · rw [e1]
        show RelV _ (DictEntry.key _)
        rw [e2]
        exact ⟨tk, rfl⟩
      · rw [e1]
        show RelV _ (DictEntry.key _)
        rw [e2]
        exact ⟨tk, rfl⟩
    · show RelV _ (DictEntry.val _)
      rw [hv]
      exact r2
theorem zip_fst : ∀ {ks vs : List PyData}, ks.length = vs.length → (ks.zip vs).map (·.1) = ks
  | [], [], _ => rfl
  | k :: ks, v :: vs, h => by
    rw [List.zip_cons_cons, List.map_cons, zip_fst (Nat.succ.inj h)]
theorem zip_snd : ∀ {ks vs : List PyData}, ks.length = vs.length → (ks.zip vs).map (·.2) = vs
  | [], [], _ => rfl
  | k :: ks, v :: vs, h => by
    rw [List.zip_cons_cons, List.map_cons, zip_snd (Nat.succ.inj h)]
/-- read off the heap; no address but lists' is met that may be the modules' dict -/
theorem DX.reads (I : Inv X pins σ H s) {v : V} {d : PyData} {u : Value} (h : DX X.K H v d) (r : RelV v u) : ∃ as, Reads s.heap u d as ∧ (d.hasDict = true → sysModules ∉ as) := by
  cases h with
  | dp h =>
    obtain ⟨as, q⟩ := Dp.reads I _ _ _ h r
    exact ⟨as, q, fun z => by rw [noD _ _ h] at z; cases z⟩
  | @dc a kvs ks vs ha hk hv fk fv =>
    cases (show u = Value.ref a from r)
    obtain ⟨_, hsys, us, rel, o, es, ep, ho, hx, hd, _, hp, _⟩ := (show ObjOk X.prog X.w H s.heap a (.dK kvs) from I.hok a _ ha)
    obtain ⟨rk, rv⟩ := pairs_vals rel hp
    obtain ⟨as, q1⟩ := Dp.readsAll I ks _ _ hk rk
    obtain ⟨bs, q2⟩ := Dp.readsAll I vs _ _ hv rv
    have hl : ks.length = vs.length := by
      rw [← dpAll_length hk, ← dpAll_length hv, List.length_map, List.length_map]
    refine ⟨a :: as ++ bs, Reads.dict ho hx.1 hd (by rw [zip_fst hl]; exact q1) (by rw [zip_snd hl]; exact q2), fun _ hm => ?_⟩
    rw [flats_read q1 fk, flats_read q2 fv] at hm
    have e : sysModules = a := by simpa using hm
    rw [e] at hsys
    simp at hsys
theorem DXAll.reads {b : Bool} (I : Inv X pins σ H s) : ∀ {vs : List V} {ds : List PyData} {us : List Value}, DXAll X.K H vs ds → (∀ d ∈ ds, d.hasDict = b) → Vals vs us → ∃ as, ReadsAll s.heap us ds as ∧ (b = true → sysModules ∉ as)
  | _, _, _, .nil, _, .nil => ⟨[], .nil, fun _ h => by cases h⟩
  | _, _, _, .cons a r, e, .cons q t => by
    obtain ⟨as, h1, n1⟩ := a.reads I q
    obtain ⟨bs, h2, n2⟩ := DXAll.reads I r (fun d hd => e d (List.mem_cons_of_mem _ hd)) t
    refine ⟨as ++ bs, .cons h1 h2, fun hb hm => ?_⟩
    rcases List.mem_append.mp hm with z | z
    · exact n1 ((e _ (List.mem_cons_self ..)).trans hb) z
    · exact n2 hb z
theorem dictAll_of {b : Bool} : ∀ {ds : List PyData}, (∀ d ∈ ds, d.hasDict = b) → PyData.hasDictAll ds = true → b = true
  | [], _, h => by
    unfold PyData.hasDictAll at h
    cases h
  | d :: ds, e, h => by
    unfold PyData.hasDictAll at h
    rw [Bool.or_eq_true] at h
    rcases h with h | h
    · rw [e d (List.mem_cons_self ..)] at h
      exact h
    · exact dictAll_of (fun x hx => e x (List.mem_cons_of_mem _ hx)) h
end
/-- the answer's size and depth are small -/
structure Shows (d : PyData) : Prop where
  sh : d.showable = true
  sz : d.shown.length ≤ sizeLine
  dp : d.depth ≤ 60
def rRepr (K : PySem.W.Frag) : List V → Hp → VK → Prop := fun xs H Q => ∃ v d, xs = [v] ∧ DX K H v d ∧ Shows d ∧ Q (.str d.shown) H
section
variable {X : Cx}
theorem call_repr (hg : X.A.guards = some []) (hu : X.A.units + 64 < cLine) : CallR X (.builtin "repr") (rRepr X.K) := by
  intro pins s σ
        H xs us Q I r h
  obtain ⟨v, d, rfl, hd, S, q⟩ := h
  cases r with
  | @cons _ u _ _ rv rn =>
    cases rn
    obtain ⟨as, hr, hs⟩ := hd.reads I rv
    have fin : ∀ h' t k, (∀ b o, s.heap.get? b = some o → h'.get? b = some o) → EP X pins σ Q (.str d.shown t) { s with heap := h', toks := k } := fun h' t k kk => ⟨.str d.shown, H, I.kept kk, ⟨_, rfl⟩, q⟩
    cases hr with
    | none => exact PySem.P.repr_of_none (by rw [PyData.shown_none] at fin; exact fin s.heap s.toks _ fun _ _ z => z)
    | bool b => exact PySem.P.repr_of_bool (by rw [PyData.shown_bool] at fin; exact fin s.heap s.toks _ fun _ _ z => z)
    | int i t =>
      have hi : i.natAbs.log2 < 1920 := by
        have z := S.sh
        unfold PyData.showable at z
        exact of_decide_eq_true z
      exact PySem.P.repr_of_int hi (by rw [PyData.shown_int] at fin; exact fin s.heap s.toks _ fun _ _ z => z)
    | str x t =>
      have z := S.sz
      rw [PyData.shown_str] at z fin
      exact PySem.P.repr_of_str (fin s.heap s.toks _ fun _ _ z => z) z
    | list h1 h2 h3 h4 => exact repr_of_reads' (.list h1 h2 h3 h4) S.sh hs hg (by have := S.dp; omega) (fun _ _ z => z) (fun h' t k kk => fin h' t k kk) S.sz
    | tuple h1 h2 h3 h4 => exact repr_of_reads' (.tuple h1 h2 h3 h4) S.sh hs hg (by have := S.dp; omega) (fun _ _ z => z) (fun h' t k kk => fin h' t k kk) S.sz
    | dict h1 h2 h3 h4 h5 => exact repr_of_reads' (.dict h1 h2 h3 h4 h5) S.sh hs hg (by have := S.dp; omega) (fun _ _ z => z) (fun h' t k kk => fin h' t k kk) S.sz
/-- repr of a list that was laid in the call: not the modules' dict -/
def rReprL (K : PySem.W.Frag) : List V → Hp → VK → Prop := fun xs H Q => ∃ (p : Addr) (vs : List V) (ds : List PyData) (b : Bool), xs = [.ref p] ∧ H p = some (.lst vs) ∧ p ≠ sysModules ∧ DXAll K H vs ds ∧ (∀ d ∈ ds, d.hasDict = b) ∧ Shows (.list ds) ∧ Q (.str (PyData.list ds).shown) H
theorem call_reprL (hg : X.A.guards = some []) (hu : X.A.units + 64 < cLine) : CallR X (.builtin "repr") (rReprL X.K) := by
  intro pins s σ
        H xs us Q I r h
  obtain ⟨p, vs, ds, b, rfl, hp, np, hd, hb, S, q⟩ := h
  cases r with
  | @cons _ u _ _ rv rn =>
    cases rn
    cases (show u = Value.ref p from rv)
    obtain ⟨_, its, n, rvs, ho⟩ := (show ObjOk X.prog X.w H s.heap p (.lst vs) from I.hok p _ hp)
    obtain ⟨as, hr, hs⟩ := hd.reads I hb rvs
    refine repr_of_reads' (Reads.list ho rfl rfl hr) S.sh (fun z => ?_) hg (by have := S.dp; omega) (fun _ _ z => z) (fun h' t k kk => ⟨.str (PyData.list ds).shown, H, I.kept kk, ⟨_, rfl⟩, q⟩) S.sz
    unfold PyData.hasDict at z
    intro hm
    rcases List.mem_cons.mp
          hm with e | e
    · exact np e.symm
    · exact hs (dictAll_of hb z) e
/-- a list display, and its address -/
def tLstS (t : TA) : TE := fun σ H Q => t σ H fun xs H1 => xs.length ≤ sizeLine ∧ ∀ p, H1 p = none → p ≠ sysModules → Q (.ref p) (upd H1 p (.lst xs))
theorem pe_lstS {es : List Expr} {t : TA} {pos : Pos} (h : PA X es t) : PE X (.List es pos) (tLstS t) := by
  refine ⟨fun pins s
        σ H Q I hq => ?_⟩
  refine wpAny_List_spliced (thn (h.run pos pins s σ H _ I hq) fun us s1 hh => ?_)
  obtain ⟨xs, H1, I1, r, z, q⟩ := hh
  refine ⟨by rw [← r.length]; exact z, ?_⟩
  have free : H1 s1.heap.objs.size = none := I1.hok.fresh (Nat.le_refl _)
  have big := Inv.big I1
  refine ⟨.ref s1.heap.objs.size, upd H1 s1.heap.objs.size (.lst xs), I1.laid (t' := s1.toks) (fun b u e => Heap.get?_push_of_some _ e) (Nat.le_refl _) ?_, rfl, q _ free (Ne.symm (Nat.ne_of_lt big))⟩
  exact ⟨z, us, 0, r,
        Heap.get?_push_size _ rfl⟩
/-- xs.count(b), truth values -/
def eqb (k : Bool) (v : Value) : Bool := match v with
  | .bool n => n == k
  | _ => false
theorem eqb_gives {k : Bool} {A : Around} {s : Shared} : ∀ {us : List Value} {bs : List Bool}, Vals (bs.map V.bl) us → ∀ y ∈ us, SeqAt.EqAt A s y (.bool k) (eqb k y)
  | _, [], .nil => fun y hy => by cases hy
  | _, b :: bs, .cons r h => fun y hy => by
    rcases List.mem_cons.mp
          hy with e | e
    · rw [e, show _ = Value.bool b from r]
      exact SeqAt.EqAt.bool_bool b k
    · exact eqb_gives h y e
theorem eqb_count {k : Bool} : ∀ {us : List Value} {bs : List Bool}, Vals (bs.map V.bl) us → us.countP (eqb k) = bs.count k
  | _, [], .nil => rfl
  | _, b :: bs, .cons r h => by
    rw [List.countP_cons, List.count_cons, eqb_count (k := k) h, show _ = Value.bool b from r]
    rfl
def rCntB (K : PySem.W.Frag) : V → List V → Hp → VK → Prop := fun x xs H Q => ∃ (p : Addr) (bs : List Bool) (k : Bool), x = .ref p ∧ xs = [.bl k] ∧ SqL K H p (bs.map V.bl) ∧ Q (.int (bs.count k : Nat)) H
theorem mt_count_bool : MtR X "list.count" (rCntB X.K) := by
  intro pins s σ H x
        xs v us Q I rx rxs h
  obtain ⟨p, bs, k, rfl, rfl, hs, q⟩ := h
  cases rx
  obtain ⟨u, rfl,
        ru⟩ := rxs.one
  cases (show u = Value.bool k from ru)
  obtain ⟨its, rv, ⟨⟨cls, dd, data, sl⟩,
        n, ho, hc, hdn, hd⟩, hlen⟩ := I.list hs
  simp only at hc hd
  subst hc hd
  refine call_meets PySem.F.slot_list_count ⟨_, ho, rfl⟩ PySem.F.entry_list_count (PySem.F.args_list_count_2 _ _) (SeqAt.list_countAt p its.toArray n dd sl (.bool k) (eqb k))
    ⟨ho, fun y hy => eqb_gives rv y (by simpa using hy), ?_⟩
  have ec : its.toArray.toList.countP (eqb k) = bs.count k := eqb_count rv
  refine ⟨.int (bs.count k : Nat), H, I.tok _, ⟨s.toks, ?_⟩, q⟩
  show Value.int ((its.toArray.toList.countP (eqb k) : Nat) : Int) s.toks = Value.int ((bs.count k : Nat) : Int) s.toks
  rw [ec]
/-- a short text, many times -/
theorem op_mul_str : OpR X (binaryOp .Mult) (fun x y H Q => ∃ (z : Str) (i : Int), x = .str z ∧ y = .int i ∧ z.length ≤ 16 ∧ 0 ≤ i ∧ i ≤ 1000 ∧ Q (.str (Txt.mul z i)) H) := by
  intro pins s σ H x
        y v u Q I rx ry h
  obtain ⟨z, i, rfl, rfl, hz, h0, h1, q⟩ := h
  obtain ⟨t, rfl⟩ := rx
  obtain ⟨t', rfl⟩ := ry
  refine PySem.W.KXi.mul rfl hz (by omega) (by omega) fun tk k _ _ => ?_
  exact ⟨.str (Txt.mul z i), H, I.tok _, ⟨_, rfl⟩, q⟩
end
end XK
end
section
set_option Elab.async false
set_option linter.all false
set_option maxRecDepth 100000
set_option maxHeartbeats 4100000
namespace XK
open PySem PySem.Spec PyProof.Rows L2
/-! ### a law's own def: it is called where no repr is under way -/
section
variable {P : Program} {w : World} {K : PySem.W.Frag} {mg : Str → Option Value} {base : Heap} {CX : CXT} {k : Nat} {f : Addr} {fd : FuncData} {N ps : List Str} {sp : Sp}
/-- a def's promise where the claim's caller calls it -/
structure AtCaller (P : Program) (w : World) (K : PySem.W.Frag) (mg : Str → Option Value) (base : Heap) (CX : CXT) (k : Nat) (f : Addr) (fd : FuncData) (ps : List Str) (sp : Sp) : Prop where
  go : ∀ (outer : List Env) (s : Shared) (H : Hp) (args : Args) (us : List Value) (vs : List V) (Q : VK) (E : XK), Room k callerA → Env0 P w K mg base callerA outer s H → BindsTo s fd args (ps.zip us) → Vals vs us → sp vs H Q E →
    codeAny (model P w) callerA (.call (.ref f) args) (CR CX outer P w H s Q E) s
theorem atCaller {x qual : Str} {st : Stmt} (F : Fun K x qual st f fd) (S : FnScope N ps (defScope st)) (len : ∀ vs H Q E, sp vs H Q E → vs.length = ps.length)
    (body : ∀ (cdv : Value) (outer : List Env) (s : Shared) (H : Hp) (vs : List V) (Q : VK) (E : XK), Room k (callerA.deeper (envOfC qual (defScope st) s.heap.objs.size f cdv)) → sp vs H Q E →
      ∃ t, PSs (cxOf CX P w K mg base N qual (defScope st) f cdv callerA outer s H E).nox (defBody st) t ∧ t { nx := fun _ H' => Q .non H', rt := Q } (start N vs) H) :
    AtCaller P w K mg base CX (k + 1) f fd ps sp := by
  obtain ⟨oc, od, kV, doc, pm, an,
        cdv, ct, osl, rfl, lk, hcd⟩ := F.ex
  constructor
  intro outer s H args us vs Q E room env bind rel want
  have count := len _ _ _ _ want
  have inn : K.In s.heap := env.mod.kin.keeps fun b o e => (env.bs b o e).1
  have lim : s.heap.NoLimit := env.mod.nolimit.keeps fun b o e => (env.bs b o e).1
  have kinds : ∀ y ∈ ps.zip us, (defScope st).names.lookup y.1 = some .local ∨ ((defScope st).names.lookup y.1 = some .cell ∧ ((cellsFrom (s.heap.objs.size + 1) (defScope st).names []).lookup y.1).isSome = true) := by
    rintro ⟨n, v⟩ hy
    cases S.par n (List.of_mem_zip hy).1 with
    | inl q => exact .inl q
    | inr q => exact .inr ⟨q, PySem.W.cellsFrom_some _ _ _ (.inl q)⟩
  refine codeAny_call_function room.depth (inn _ _ lk) rfl S.co S.gen rfl (PySem.W.codeRec_of inn hcd) (bind _ _ _ _ ?_)
  refine wpAny_newFunctionEnv_cells S.kind kinds fun en hen s1 entered => ?_
  subst hen
  refine ⟨lim.keeps entered.toInCall.keep, codeAny_func ?_⟩
  obtain ⟨t, der, rd⟩ := body cdv outer s H vs Q E (room.deeper _) want
  have I0 : Inv (cxOf CX P w K mg base N qual (defScope st) f cdv callerA outer s H E) [] (start N vs) H s1 := inv_start S room.hd env count rel entered
  refine wpAny_mono (der.nox.run [] s1 (start N vs) H _ I0 rd) (fun flow s' res => ?_) fun _ _ res => res
  cases flow with
  | ret u =>
    obtain ⟨v, σ', H', J, rv, q⟩ := res
    exact ⟨v, H', J.os, J.bare, J.base, J.hok, rv, q⟩
  | next =>
    obtain ⟨σ', H', J, q⟩ := res
    exact ⟨V.non, H', J.os, J.bare, J.base, J.hok, rfl, q⟩
  | brk =>
    obtain ⟨_, _, _, no⟩ := res
    exact no.elim
  | cont =>
    obtain ⟨_, _, _, no⟩ := res
    exact no.elim
end
/-- the law's call: nothing but the script may be tracked at its entry -/
theorem caller_runs {P : Program} {w : World} {K : PySem.W.Frag} {mg mb : Str → Option Value} {k : Nat} {fa a : Addr} {fd : FuncData} {x : Str} {sp : Sp} {s₁ : Shared} {vs : List Value} {ns : List Int}
    (inn : K.In s₁.heap) (glob : s₁.heap.Ns mainGlobals mg) (bns : s₁.heap.Ns builtinsNs mb) (boot : ∀ x : Str, x ≠ "__name__" → mb x = bootBuiltins x) (lim : s₁.heap.NoLimit) (gens : s₁.gens = #[])
    (obj : s₁.heap.get? a = some { cls := .type "list", data := .seq vs.toArray }) (inz : IntsAre vs ns) (short : ns.length ≤ sizeLine) (room : Room k callerA)
    (F : ∀ base : Heap, K.In base → base.Ns mainGlobals mg → AtCaller P w K mg base CX0 k fa fd [x] sp) (bind : ∀ (s : Shared) (u : Value), BindsTo s fd ⟨[u], []⟩ [(x, u)])
    (want : ∀ H : Hp, SqL K H a (ns.map V.int) → sp [.ref a] H (fun v _ => v = .bl true) fun _ _ _ => False) :
    codeAny (model P w) callerA (.call (.ref fa) ⟨[.ref a], []⟩) (fun r s' => r = .ok
          (.ret (.bool true)) ∧ OldK s₁.heap s'.heap ∧ s'.os = s₁.os ∧ AllBare s'.gens) s₁ := by
  have vals := vals_ints inz
  have many := inz.length
  have main : ∀ H : Hp, (∀ b, H b = none ∨ ∃ ob xs, H b = some (.frz ob xs)) → SqL K H a (ns.map V.int) → HOk P w H s₁.heap → (∀ b, H b ≠ none → b = a ∧ K.lookup b = none) →
      codeAny (model P w) callerA (.call (.ref fa) ⟨[.ref a], []⟩) (fun r s' => r = .ok
            (.ret (.bool true)) ∧ OldK s₁.heap s'.heap ∧ s'.os = s₁.os ∧ AllBare s'.gens) s₁ := by
    intro H frozen seq ok alone
    have plain : ∀ {b : Addr} {o : Obj}, s₁.heap.get? b = some o → (b = a → False) → H b = none := fun {b o} _ nb => by
      cases q : H b with
      | none => rfl
      | some u => exact (nb (alone b (by rw [q]; simp)).1).elim
    have space : ∀ {b : Addr} {m : Str → Option Value}, s₁.heap.Ns b m → (hidT s₁.heap H).Ns b m := fun {b m} ⟨o, es, ep, e, d, r⟩ =>
      ⟨o, es, ep, hidT_get e (plain e fun z => by
        rw [z, obj] at e
        cases e
        cases (show Data.seq vs.toArray _ = Data.dict es ep from d)), d, r⟩
    have kept : K.In (hidT s₁.heap H) := fun b o e => hidT_get (inn b o e) (by
      cases q : H b with
      | none => rfl
      | some u =>
        have z := (alone b (by rw [q]; simp)).2
        rw [z] at e
        cases e)
    have md : Mod K mg (hidT s₁.heap H) := ⟨kept, space glob, ⟨mb, space bns, boot⟩, by
      obtain ⟨mc, h1, h2⟩ := lim
      exact ⟨mc, space h1, h2⟩⟩
    have env : Env0 P w K mg (hidT s₁.heap H) callerA [] s₁ H :=
      ⟨rfl, md, fun b o e => of_hidT e, Nat.le_of_eq (hidT_size _ _), trivial, fun b hb => (by cases hb), ok, AllBare.of_eq gens⟩
    have res := (F _ kept (space glob)).go [] s₁ H ⟨[.ref a], []⟩ [.ref a] [.ref a] _ _ room env (bind s₁ (.ref a)) (.cons rfl .nil) (want H seq)
    refine codeAny_mono res fun r s' h => ?_
    cases r with
    | error e => exact False.elim h
    | ok fl =>
      cases fl with
      | next => exact False.elim h
      | brk => exact False.elim h
      | cont => exact False.elim h
      | ret u =>
        obtain ⟨v, H', os, bare, un, ok', rel, q⟩ := h
        obtain rfl : v = .bl true := q
        obtain rfl : u = Value.bool true := rel
        refine ⟨rfl, OldK.of_keep
              fun b o e => ?_, os, bare⟩
        rcases frozen b with z | ⟨ob, xs, z⟩
        · exact un.keep b o e z (fun z => by cases z) (fun z => by cases z)
        · obtain ⟨e1, _⟩ := ok b _ z
          obtain ⟨e2, _⟩ := ok' b _ (un.frzs b ob _ z)
          rw [e] at e1
          cases e1
          exact e2
  cases hk : K.lookup a with
  | some o =>
    have e := inn a o hk
    rw [obj] at e
    cases e
    refine main (fun _ => none) (fun _ => .inl rfl) (.inr ⟨_, vs.toArray, _, hk, rfl, rfl, rfl, ?_, ?_⟩) (fun b u z => by cases (show (none : Option HO) = some u from z)) fun b z => absurd rfl z
    · rw [List.size_toArray, many]
      exact short
    · simpa using vals
  | none =>
    refine main (upd (fun _ => none) a (.frz { cls := .type "list", data := .seq vs.toArray } (.lst (ns.map V.int)))) (fun b => ?_) (.inl (.inr ⟨_, upd_same⟩)) (fun b u z => ?_) fun b z => ?_
    · by_cases hb : b = a
      · rw [hb]
        exact .inr ⟨_, _, upd_same⟩
      · exact .inl (upd_ne hb)
    · by_cases hb : b = a
      · subst hb
        rw [upd_same] at z
        cases z
        exact ⟨obj, by rw [List.length_map]; exact short, vs, _, vals, obj⟩
      · rw [upd_ne hb] at z
        cases z
    · by_cases hb : b = a
      · exact ⟨hb, by rw [hb]; exact hk⟩
      · exact absurd (upd_ne hb) z
/-- the goal that the head leaves -/
theorem caller_walk {l : PySem.W.OpenLaw} {n k : Nat} {q : Program} {loose : List Str} {XP : (Str → Option Value) → Heap → Prop} {YP : World → Heap → Prop} {d : DefRec} {K : Params → PySem.W.Frag} {sp : World → Sp} {x : Str}
    (most : l.most = some n) (small : n ≤ sizeLine) (plain : d.params.defaults = []) (room : Room k callerA)
    (Y : ∀ (w : World) (h : Heap), YP w h → (K w.params).In h)
    (F : ∀ (w : World) (mg : Str → Option Value) (fa : Addr) (h : Heap), (K w.params).In h → h.Ns mainGlobals mg → mg d.name = some (.ref fa) →
      ∃ fd : FuncData, (∀ (s : Shared) (u :
            Value), BindsTo s fd ⟨[u], []⟩ [(x, u)]) ∧
        ∀ base : Heap, (K w.params).In base → base.Ns mainGlobals mg → AtCaller l.prog w (K w.params) mg base CX0 k fa fd [x] (sp w))
    (want : ∀ (w : World) (H : Hp) (a : Addr) (ns : List Int), ns.length ≤ n → SqL (K w.params) H a (ns.map V.int) → sp w [.ref a] H (fun v _ => v = .bl true) fun _ _ _ => False) :
    PySem.W.WalkO q loose XP YP l.row.toRowW
          d [] (fun f vs => PySem.call f vs) := by
  refine Att.attach_call most plain fun w s₀ s₁ mg mb fa o pm cd doc a vs ns G y ho hd hcd hmg obj inz many gens => ?_
  obtain ⟨fd, bind, run⟩ := F w mg fa _ (Y w _ y) G.T.g hmg
  exact caller_runs (Y w _ y) G.T.g G.T.b G.T.builtins G.T.nolimit gens obj inz (Nat.le_trans many small) room run bind fun H seq => want w H a ns many seq
end XK
end
section
set_option Elab.async false
set_option linter.all false
set_option maxRecDepth 100000
set_option maxHeartbeats 4100000
namespace LA
open PySem L2
/-! ### the text by places -/
def top (i : Nat) : Stmt := PySem.Challenge.pw_linestream_k19_addresses_made.main.body.getD i (.Pass ⟨0, 0, 0, 0⟩)
abbrev sPen : Stmt := top 61
abbrev sDraw : Stmt := top 62
abbrev sPick : Stmt := top 63
/-! ### the pen: a dict of cells, turn, left -/
abbrev kC : Key := Sum.inr "cells"
abbrev kT : Key := Sum.inr "turn"
abbrev kL : Key := Sum.inr "left"
theorem nCT : ¬ (kC = kT) := by decide +kernel
theorem nCL : ¬ (kC = kL) := by decide +kernel
theorem nTC : ¬ (kT = kC) := by decide +kernel
theorem nTL : ¬ (kT = kL) := by decide +kernel
theorem nLC : ¬ (kL = kC) := by decide +kernel
theorem nLT : ¬ (kL = kT) := by decide +kernel
theorem put_same_len {kvs : List (Key × V)} {k : Key} {v u : V} (h : valV kvs k = some u) : (putK kvs k v).length = kvs.length := by
  unfold putK
  rw [valV_any, h]
  simp
/-- the pen stands at d, at most n turns were drawn, its cells at c are the ints ns -/
structure Pen (H : Hp) (d c : Addr) (n : Int) (ns : List Int) (kvs : List (Key × V)) (t l : Int) : Prop where
  dc : H d = some (.dK kvs)
  vc : valV kvs kC = some (.ref c)
  vt : valV kvs kT = some (.int t)
  vl : valV kvs kL = some (.int l)
  t0 : 0 ≤ t
  tn : t ≤ n
  sz : kvs.length ≤ 3
  cs : H c = some (.lst (ns.map V.int))
  cl : ns.length ≤ 63
theorem Pen.getC {H d c n ns kvs t l} (p : Pen H d c n ns kvs t l) : DGet H d (.str "cells") (some (.ref c)) := by
  have h := DGet.k (k := kC) p.dc
  rw [p.vc] at h
  exact h
theorem Pen.getT {H d c n ns kvs t l} (p : Pen H d c n ns kvs t l) : DGet H d (.str "turn") (some (.int t)) := by
  have h := DGet.k (k := kT) p.dc
  rw [p.vt] at h
  exact h
theorem Pen.getL {H d c n ns kvs t l} (p : Pen H d c n ns kvs t l) : DGet H d (.str "left") (some (.int l)) := by
  have h := DGet.k (k := kL) p.dc
  rw [p.vl] at h
  exact h
theorem Pen.small {H d c n ns kvs t l} (p : Pen H d c n ns kvs t l) : kvs.length < sizeLine := small1000 (by have := p.sz; omega)
def PenAt (H : Hp) (d c : Addr) (n : Int) (ns : List Int) : Prop := ∃ kvs t l, Pen H d c n ns kvs t l
theorem Pen.ne {H d c n ns kvs t l} (p : Pen H d c n ns kvs t l) : c ≠ d := ne_of p.cs p.dc (by intro z; cases z)
theorem PenAt.ne {H d c n ns} (p : PenAt H d c n ns) : c ≠ d := by
  obtain ⟨_, _, _, p⟩ := p
  exact p.ne
theorem Pen.keep {H H' d c n ns kvs t l} (p : Pen H d c n ns kvs t l) (h : Same H H') : Pen H' d c n ns kvs t l :=
  ⟨h _ _ p.dc, p.vc, p.vt, p.vl, p.t0, p.tn, p.sz, h _ _ p.cs, p.cl⟩
theorem PenAt.keep {H H' d c n ns} (p : PenAt H d c n ns) (h : Same H H') : PenAt H' d c n ns := by
  obtain ⟨_, _, _, p⟩ := p
  exact ⟨_, _, _, p.keep h⟩
theorem Pen.putT {H d c n ns kvs t l} (p : Pen H d c n ns kvs t l) : Pen (upd H d (.dK (putK kvs kT (.int (t + 1))))) d c (n + 1) ns (putK kvs kT (.int (t + 1))) (t + 1) l :=
  ⟨upd_same, by rw [valV_put, if_neg nCT]; exact p.vc, by rw [valV_put, if_pos rfl], by rw [valV_put, if_neg nLT]; exact p.vl, by have := p.t0; omega, by have := p.tn; omega, by rw [put_same_len p.vt]; exact p.sz, by rw [upd_ne p.ne]; exact p.cs, p.cl⟩
theorem Pen.putL {H d c n ns kvs t l} (p : Pen H d c n ns kvs t l) (l' : Int) : Pen (upd H d (.dK (putK kvs kL (.int l')))) d c n ns (putK kvs kL (.int l')) t l' :=
  ⟨upd_same, by rw [valV_put, if_neg nCL]; exact p.vc, by rw [valV_put, if_neg nTL]; exact p.vt, by rw [valV_put, if_pos rfl], p.t0, p.tn, by rw [put_same_len p.vl]; exact p.sz, by rw [upd_ne p.ne]; exact p.cs, p.cl⟩
theorem Pen.more {H d c n m ns kvs t l} (p : Pen H d c n ns kvs t l) (h : n ≤ m) : PenAt H d c m ns :=
  ⟨_, _, _, p.dc, p.vc, p.vt, p.vl, p.t0, Int.le_trans p.tn h, p.sz, p.cs, p.cl⟩
/-- all that was tracked is as it was, but at d -/
def But (d : Addr) (H H' : Hp) : Prop := ∀ b o, H b = some o → b ≠ d → H' b = some o
theorem But.refl {d : Addr} {H : Hp} : But d H H := fun _ _ h _ => h
theorem But.trans {d : Addr} {H H1 H2 : Hp} (a : But d H H1) (b : But d H1 H2) : But d H H2 := fun c o h n => b c o (a c o h n) n
theorem But.same {d : Addr} {H H' : Hp} (a : Same H H') : But d H H' := fun c o h _ => a c o h
theorem same_upd {H : Hp} {p : Addr} {o : HO} (hp : H p = none) : Same H (upd H p o) := fun b u e => by
  rw [upd_ne (ne_of_none e hp)]
  exact e
theorem but_upd {H : Hp} {d : Addr} {o : HO} : But d H (upd H d o) := fun b u e n => by
  rw [upd_ne n]
  exact e
theorem dp_ints {K : PySem.W.Frag} {H : Hp} : ∀ ns : List Int, DpAll K H (ns.map V.int) (ns.map PyData.int)
  | [] => .nil
  | n :: r => .cons (.int n) (dp_ints r)
theorem canLay_ints : ∀ ns : List Int, PyData.canLayAll0 (ns.map PyData.int) = true
  | [] => rfl
  | n :: r => by
    show (PyData.canLay0 (.int n) && PyData.canLayAll0 (r.map PyData.int)) = true
    rw [canLay_ints r]
    rfl
theorem depth_ints : ∀ ns : List Int, PyData.depthAll (ns.map PyData.int) = 0
  | [] => rfl
  | n :: r => by
    show max (PyData.depth (.int n)) (PyData.depthAll (r.map PyData.int)) = 0
    rw [depth_ints r]
    rfl
theorem shaped_ints (ns : List Int) : SeqAt.shaped (.list (ns.map PyData.int)) = true := by
  unfold SeqAt.shaped
  have h1 : PyData.canLay0 (.list (ns.map PyData.int)) = true := by
    unfold PyData.canLay0
    exact canLay_ints ns
  have h2 : PyData.depth (.list (ns.map PyData.int)) ≤ 64 := by
    unfold PyData.depth
    rw [depth_ints]
    decide
  rw [h1, decide_eq_true h2]
  rfl
/-! ### the promises -/
def spPen (K : PySem.W.Frag) : Sp := fun vs H Q _ => ∃ (a : Addr) (ns : List Int), vs = [.ref a] ∧ SqL K H a (ns.map V.int) ∧ ns.length ≤ 63 ∧
  ∀ (d c : Addr) (ms : List Int) (H' : Hp), PenAt H' d c 0 ms → Same H H' → H d = none → H c = none → Q (.ref d) H'
/-- draw: any number below the span -/
def spDraw : Sp := fun vs H Q _ => ∃ (d c : Addr) (n : Int) (ns : List Int) (span : Int), vs = [.ref d, .int span] ∧ PenAt H d c n ns ∧ n < 1000000 ∧ 1 ≤ span ∧ span < 1000000 ∧
  ∀ (r : Int) (H' : Hp), 0 ≤ r → r < span → PenAt H' d c (n + 1) ns → But d H H' → Q (.int r) H'
structure Txt (mg : Str → Option Value) : Prop where
  len : mg "len" = none
  int : mg "int" = none
  list : mg "list" = none
  abs : mg "abs" = none
def primesI : List Int := [2147483629, 2147483647, 2147483587, 2147483563, 2147483579]
theorem prime_at {k : Int} : ∃ p : Int, atI (primesI.map V.int) (k.fmod 5) = some (.int p) ∧ 2 ≤ p ∧ p < 2147483648 := by
  have h0 := Int.fmod_nonneg_of_pos k (b := 5) (by decide)
  have h1 := Int.fmod_lt_of_pos k (b := 5) (by decide)
  generalize k.fmod 5 = r at h0 h1
  have : r = 0 ∨ r = 1 ∨ r = 2 ∨ r = 3 ∨ r = 4 := by omega
  rcases this with rfl | rfl | rfl | rfl | rfl
  · exact ⟨2147483629, atI_nat (j := 0) rfl, by decide, by decide⟩
  · exact ⟨2147483647, atI_nat (j := 1) rfl, by decide, by decide⟩
  · exact ⟨2147483587, atI_nat (j := 2) rfl, by decide, by decide⟩
  · exact ⟨2147483563, atI_nat (j := 3) rfl, by decide, by decide⟩
  · exact ⟨2147483579, atI_nat (j := 4) rfl, by decide, by decide⟩
theorem fmod_in {a b : Int} (h : 0 < b) : 0 ≤ a.fmod b ∧ a.fmod b < b := ⟨Int.fmod_nonneg_of_pos a h, Int.fmod_lt_of_pos a h⟩
theorem at_fmod {α : Type} {xs : List α} {k : Int} (h : 0 < (xs.length : Int)) : ∃ (j : Nat) (v : α), k.fmod (xs.length : Int) = (j : Int) ∧ xs[j]? = some v := by
  obtain ⟨h0, h1⟩ := fmod_in (a := k) h
  refine ⟨(k.fmod xs.length).toNat, xs[(k.fmod xs.length).toNat]'(by omega), by omega, List.getElem?_eq_getElem _⟩
section
variable {P : Program} {w : World} {K : PySem.W.Frag} {mg : Str → Option Value} {base : Heap}
theorem scD : FnScope ["_law_pen_here", "_law_span", "_law_digit", "_law_turn", "_law_cell", "_law_primes", "_law_prime", "_law_drawn"] ["_law_pen_here", "_law_span"] (defScope sDraw) := ⟨rfl, rfl, rfl, by decide +kernel, rfl, by decide +kernel, by decide +kernel⟩
theorem ok_draw {f : Addr} {fd : FuncData} (F : Fun K "_law_draw" "_law_draw" sDraw f fd) (T : Txt mg) : FnOk P w K mg base CX0 1 f fd ["_law_pen_here", "_law_span"] spDraw := by
  refine F.ok scD (fun vs H Q E h => ?_) (fun cdv A outer s H vs Q E hr h => ?_)
  · obtain ⟨d, c, n, ns, span, rfl, _⟩ := h
    rfl
  · obtain ⟨d, c, n, ns, span, rfl, ⟨kvs, t, l, p⟩, hn, s1, s2, k⟩ := h
    have hu := hu_of hr
    have hu6 := hr.units
    have t0 := p.t0
    have tn := p.tn
    refine ⟨_, pss_cons (by exact (ps_if (pt_cmpR op_gt (pe_dget hu (pv 0) pe_str (fun _ _ => rfl)) pe_int (nomark _))
          (pss_cons (ps_set (i := 2) scD.nd rfl (.inl rfl) (pe_op op_modN (pe_callTy call_int1 (by rfl) T.int (by decide +kernel) (pa_cons (pe_dget hu (pv 0) pe_str (fun _ _ => rfl)) pa_nil)) (pv 1)))
          (pss_cons (ps_dput hu (pv 0) pe_str (pe_op op_fdivN (pe_dget hu (pv 0) pe_str (fun _ _ => rfl)) (pv 1)) rfl)
          (pss_one (ps_ret (pv 2))))) pss_nil)) (
      pss_cons (by exact (ps_set (i := 3) scD.nd rfl (.inl rfl) (pe_dget hu (pv 0) pe_str (fun _ _ => rfl)))) (
      pss_cons (by exact (ps_dput hu (pv 0) pe_str (pe_op op_add (pv 3) pe_int) rfl)) (
      pss_cons (by exact (ps_set (i := 4) scD.nd rfl (.inl rfl) (pe_op op_add (pe_op op_mul pe_int (pv 3)) pe_int))) (
      pss_cons (by exact (ps_if (pt_cmpR (op_neD hu6) (pe_dget hu (pv 0) pe_str (fun _ _ => rfl)) (pe_lst pa_nil) (nomark _))
          (pss_one (ps_set (i := 4) scD.nd rfl (.inl rfl) (pe_ix ix_list (pe_dget hu (pv 0) pe_str (fun _ _ => rfl))
            (pe_op op_modN (pe_callTy call_int1 (by rfl) T.int (by decide +kernel) (pa_cons (pv 3) pa_nil)) (pe_callB call_len_seq (by rfl) T.len PySem.boot_len (pa_cons (pe_dget hu (pv 0) pe_str (fun _ _ => rfl)) pa_nil))) (fun _ _ => rfl)))) pss_nil)) (
      pss_cons (by exact (ps_if (PW.pt (pw_and (pt_cmpR op_lt (pv 3) (pe_callB call_len_seq (by rfl) T.len PySem.boot_len (pa_cons (pe_dget hu (pv 0) pe_str (fun _ _ => rfl)) pa_nil)) (nomark _))
            (pw_and1 (pt_cmpR op_ge (pe_callB call_abs (by rfl) T.abs (by decide +kernel) (pa_cons (pv 4) pa_nil)) (pe_op op_pow pe_int pe_int) (nomark _)))))
          (pss_cons (ps_dput hu (pv 0) pe_str (pe_op op_fdivN (pe_op op_sub (pe_callB call_abs (by rfl) T.abs (by decide +kernel) (pa_cons (pv 4) pa_nil)) (pe_op op_pow pe_int pe_int)) (pv 1)) rfl)
          (pss_one (ps_ret (pe_op op_modN (pe_op op_sub (pe_callB call_abs (by rfl) T.abs (by decide +kernel) (pa_cons (pv 4) pa_nil)) (pe_op op_pow pe_int pe_int)) (pv 1))))) pss_nil)) (
      pss_cons (by exact (ps_set (i := 5) scD.nd rfl (.inl rfl) (pe_lst (pa_cons pe_int (pa_cons pe_int (pa_cons pe_int (pa_cons pe_int (pa_cons pe_int pa_nil)))))))) (
      pss_cons (by exact (ps_set (i := 6) scD.nd rfl (.inl rfl) (pe_ix ix_list (pv 5) (pe_op op_modN (pe_callTy call_int1 (by rfl) T.int (by decide +kernel) (pa_cons (pv 3) pa_nil)) pe_int) (fun _ _ => rfl)))) (
      pss_cons (by exact (ps_set (i := 7) scD.nd rfl (.inl rfl) (pe_op op_modN (pe_callTy call_int1 (by rfl) T.int (by decide +kernel) (pa_cons
          (pe_op op_add (pe_op op_add (pe_op op_mul (pe_op op_modN (pe_callTy call_int1 (by rfl) T.int (by decide +kernel) (pa_cons (pv 4) pa_nil)) (pv 6)) pe_int)
            (pe_op op_mul (pv 3) (pe_op op_add (pe_op op_mul pe_int (pv 3)) pe_int))) pe_int) pa_nil)) (pv 6)))) (
      pss_cons (by exact (ps_set (i := 7) scD.nd rfl (.inl rfl) (pe_op op_modN (pe_callTy call_int1 (by rfl) T.int (by decide +kernel) (pa_cons (pe_op op_mul (pv 7) (pe_op op_add (pv 7) pe_int)) pa_nil))
          (pe_ix ix_list (pv 5) (pe_op op_modN (pe_callTy call_int1 (by rfl) T.int (by decide +kernel) (pa_cons (pe_op op_add (pv 3) pe_int) pa_nil)) pe_int) (fun _ _ => rfl))))) (
      pss_one (by exact (ps_ret (pe_op op_modN (pe_callTy call_int1 (by rfl) T.int (by decide +kernel) (pa_cons (pe_op op_fdiv (pe_op op_mod (pe_callTy call_int1 (by rfl) T.int (by decide +kernel) (pa_cons
          (pe_op op_add (pe_op op_add (pe_op op_mul (pv 7) (pv 7)) (pe_op op_mul pe_int (pv 7))) (pv 3)) pa_nil)) pe_int) pe_int) pa_nil)) (pv 1)))))))))))))), ?_⟩
    have ns0 : span ≠ 0 := by omega
    have nsb : span.natAbs < 1073741824 := by omega
    -- left > 0
    refine ⟨_, rfl, d, _, rfl, p.getL, _, _, rfl, rfl, _, rfl, ?_⟩
    refine ite2 (fun _ => ?_) (fun _ => ?_)
    · refine ⟨_, rfl, d, _, rfl, p.getL, .inl ⟨_, rfl, _, rfl, _, _, rfl, rfl, ns0, ?_⟩⟩
      refine ⟨_, rfl, d, _, rfl, p.getL, _, rfl, _, _, rfl, rfl, ⟨ns0, nsb⟩, _, rfl, d, _, rfl, DPut.k (k := kL) p.dc p.small, ?_⟩
      refine ⟨_, rfl, ?_⟩
      obtain ⟨r0, r1⟩ := fmod_in (a := l) (b := span) (by omega)
      exact k _ _ r0 r1 ((p.putL _).more (by omega)) but_upd
    -- turn, turn + 1, cell
    · refine ⟨_, rfl, d, _, rfl, p.getT, ?_⟩
      refine ⟨_, rfl, _, _, rfl, rfl, _, rfl, d, _, rfl, DPut.k (k := kT) p.dc p.small, ?_⟩
      have p1 := p.putT
      have b1 : But d H (upd H d (.dK (putK kvs kT (.int (t + 1))))) := but_upd
      generalize upd H d (.dK (putK kvs kT (.int (t + 1)))) = H1 at p1 b1
      clear p
      generalize putK kvs kT (.int (t + 1)) = kvs1 at p1
      have t1 := p1.t0
      have t2 := p1.tn
      refine ⟨_, rfl, _, _, rfl, rfl, .inl ⟨by decide, by decide⟩, _, _, rfl, rfl, ?_⟩
      -- the cell
      refine ⟨_, rfl, d, _, rfl, p1.getC, (by show 0 ≤ sizeLine; decide), fun l0 hl0 => ?_⟩
      have p2 := p1.keep (same_upd (o := .lst []) hl0)
      have b2 : But d H (upd H1 l0 (.lst [])) := b1.trans (But.same (same_upd hl0))
      refine ⟨.list (ns.map PyData.int), .list [], .lst (SqL.of p2.cs) (dp_ints ns), .lst (SqL.of upd_same) .nil, shaped_ints ns, rfl, _, rfl, ?_⟩
      generalize upd H1 l0 (.lst []) = H2 at p2 b2
      refine ite2 (fun hne => ?ga) (fun _ => ?gb)
      case' ga =>
        have npos : 0 < ((ns.map V.int).length : Int) := by
          cases ns with
          | nil => exact absurd hne (by decide)
          | cons a r => rw [List.map_cons, List.length_cons]; omega
        obtain ⟨j, v, e1, e2⟩ := at_fmod (xs := ns.map V.int) (k := t) npos
        obtain ⟨z, rfl⟩ : ∃ z, v = V.int z := by
          rw [List.getElem?_map] at e2
          cases e : ns[j]? with
          | none => rw [e]
                at e2; cases e2
          | some z => rw [e] at e2; exact ⟨z, (Option.some.inj e2).symm⟩
        refine ⟨_, rfl, d, _, rfl, p2.getC, _, rfl, .inl ⟨_, rfl, _, rfl, d, _, rfl, p2.getC, c, _, rfl, .inl (SqL.of p2.cs), _, _, rfl, rfl, (by omega), c, _, _, _, rfl, rfl, SqL.of p2.cs, (by rw [e1]; exact atI_nat e2), ?_⟩⟩
      case' gb =>
        (try dsimp only)
        generalize 43 * t + 19 = z
      all_goals
        refine ⟨_, rfl, _, rfl, d, _, rfl, p2.getC, c, _, rfl, .inl (SqL.of p2.cs), _, _, rfl, rfl, _, rfl, ?_⟩
        refine ite2 (fun _ => ?_) (fun _ => ?_)
      case' ga.refine_1 =>
        refine ⟨_, rfl, _, rfl, _, _, rfl, rfl, ⟨by decide, by decide, by decide⟩, _, _, rfl, rfl, _, rfl, ?_⟩
        refine ite2 (fun _ => ?u1) (fun _ => ?u2)
      case' gb.refine_1 =>
        refine ⟨_, rfl, _, rfl, _, _, rfl, rfl, ⟨by decide, by decide, by decide⟩, _, _, rfl, rfl, _, rfl, ?_⟩
        refine ite2 (fun _ => ?v1) (fun _ => ?v2)
      case' u1 =>
        refine ⟨_, rfl, _, rfl, _, _, rfl, rfl, ⟨by decide, by decide, by decide⟩, _, _, rfl, rfl, _, rfl, _, _, rfl, rfl, ⟨ns0, nsb⟩, _, rfl, d, _, rfl, DPut.k (k := kL) p2.dc p2.small, ?_⟩
        refine ⟨_, rfl, _, rfl, _, _, rfl, rfl, ⟨by decide, by decide, by decide⟩, _, _, rfl, rfl, _, rfl, _, _, rfl, rfl, ns0, ?_⟩
        generalize (if z < 0 then -z else z) - (10 : Int) ^ (18 : Int).toNat = y
        obtain ⟨r0, r1⟩ := fmod_in (a := y) (b := span) (by omega)
        exact k _ _ r0 r1 ((p2.putL _).more (by omega)) (b2.trans but_upd)
      case' v1 =>
        refine ⟨_, rfl, _, rfl, _, _, rfl, rfl, ⟨by decide, by decide, by decide⟩, _, _, rfl, rfl, _, rfl, _, _, rfl, rfl, ⟨ns0, nsb⟩, _, rfl, d, _, rfl, DPut.k (k := kL) p2.dc p2.small, ?_⟩
        refine ⟨_, rfl, _, rfl, _, _, rfl, rfl, ⟨by decide, by decide, by decide⟩, _, _, rfl, rfl, _, rfl, _, _, rfl, rfl, ns0, ?_⟩
        obtain ⟨r0, r1⟩ := fmod_in (a := (if z < 0 then -z else z) - (10 : Int) ^ (18 : Int).toNat) (b := span) (by omega)
        exact k _ _ r0 r1 ((p2.putL _).more (by omega)) (b2.trans but_upd)
      all_goals
        obtain ⟨q, e1, q2, q3⟩ := prime_at (k := t)
        obtain ⟨q', e1', q2', q3'⟩ := prime_at (k := t + 2)
        refine ⟨(by show 5 ≤ sizeLine; decide), fun l1 hl1 => ?_⟩
        have p3 := p2.keep (same_upd (o := .lst (primesI.map V.int)) hl1)
        have b3 : But d H (upd H2 l1 (.lst (primesI.map V.int))) := b2.trans (But.same (same_upd hl1))
        have hp : (upd H2 l1 (.lst (primesI.map V.int))) l1 = some (.lst (primesI.map V.int)) := upd_same
        refine ⟨_, rfl, _, rfl, .inl ⟨_, rfl, _, _, rfl, rfl, (by show (5 : Int) ≠ 0; decide), l1, primesI.map V.int, _, _, rfl, rfl, SqL.of hp, e1, ?_⟩⟩
        obtain ⟨x0, x1⟩ := fmod_in (a := z) (b := q) (by omega)
        refine ⟨_, rfl, .inl ⟨_, rfl, _, rfl, _, _, rfl, rfl, (by omega), _, _, rfl, rfl, .inr ⟨by decide, by decide⟩, _, rfl, _, rfl, _, _, rfl, rfl, .inl ⟨by decide, by decide⟩, _, _, rfl, rfl, _, _, rfl, rfl, .inl ⟨by omega, by omega⟩,
          _, _, rfl, rfl, _, _, rfl, rfl, .inl ⟨_, rfl, _, rfl, _, _, rfl, rfl, (by omega), ?_⟩⟩⟩
        obtain ⟨y0, y1⟩ := fmod_in (a := z.fmod q * 39373 + t * (30011 * t + 8117) + 23) (b := q) (by omega)
        (try dsimp only)
        generalize (z.fmod q * 39373 + t * (30011 * t + 8117) + 23).fmod q = y' at y0 y1 ⊢
        refine ⟨_, rfl, _, rfl, _, _, rfl, rfl, _, _, rfl, rfl, .inl ⟨by omega, by omega⟩, .inl ⟨_, rfl, _, rfl, _, rfl, _, _, rfl, rfl, .inl ⟨_, rfl, _, _, rfl, rfl, (by show (5 : Int) ≠ 0; decide), l1, primesI.map V.int, _, _, rfl, rfl, SqL.of hp, e1', _, _, rfl, rfl, (by omega), ?_⟩⟩⟩
        obtain ⟨w0, w1⟩ := fmod_in (a := y' * (y' + 69621)) (b := q') (by omega)
        (try dsimp only)
        generalize (y' * (y' + 69621)).fmod q' = w at w0 w1 ⊢
        refine ⟨_, rfl, _, rfl, _, _, rfl, rfl, .inl ⟨by omega, by omega⟩, _, rfl, _, _, rfl, rfl, .inl ⟨by decide, by decide⟩, _, _, rfl, rfl, _, rfl, _, _, rfl, rfl, .inl ⟨_, rfl, _, _, rfl, rfl, (by show (0 : Int) < 2147483549; decide), _, _, rfl, rfl, ⟨by decide, by decide⟩, .inl ⟨_, rfl, _, rfl, _, _, rfl, rfl, ns0, ?_⟩⟩⟩
        (try dsimp only)
        generalize (w * w + 16807 * w + t) % 2147483549 / 64 = u
        obtain ⟨r0, r1⟩ := fmod_in (a := u) (b := span) (by omega)
        exact k _ _ r0 r1 (p3.more (by omega)) b3
end
theorem cutInts (ns : List Int) (lo hi : Option Int) : ∃ ms : List Int, cutV (ns.map V.int) lo hi = ms.map V.int ∧ ms.length ≤ ns.length := by
  unfold cutV
  rw [← List.map_drop, ← List.map_take]
  refine ⟨_, rfl, ?_⟩
  rw [List.length_take,
        List.length_drop]
  omega
section
variable {P : Program} {w : World} {K : PySem.W.Frag} {mg : Str → Option Value} {base : Heap}
theorem scN : FnScope ["_law_script"] ["_law_script"] (defScope sPen) := ⟨rfl, rfl, rfl, by decide +kernel, rfl, by decide +kernel, by decide +kernel⟩
theorem ok_pen {f : Addr} {fd : FuncData} (F : Fun K "_law_pen" "_law_pen" sPen f fd) (T : Txt mg) : FnOk P w K mg base CX0 1 f fd ["_law_script"] (spPen K) := by
  refine F.ok scN (fun vs H Q E h => ?_) (fun cdv A outer s H vs Q E hr h => ?_)
  · obtain ⟨a, ns, rfl, _⟩ := h
    rfl
  · obtain ⟨a, ns, rfl, hS, hl, k⟩ := h
    refine ⟨_, pss_one (by exact (ps_ret (pe_disp (pps_cons pe_str (pe_callTy call_list_of (by rfl) T.list (by decide +kernel) (pa_cons (pe_slice sl_list (pv 0) po_none (po_some pe_int)) pa_nil)) (pps_cons pe_str pe_int (pps_cons pe_str pe_int pps_nil))) (by rfl) (by rfl) (fun z => by cases z) (by decide)))), ?_⟩
    intro d nd
    have s1 : Same H (upd H d (.dK [])) := same_upd nd
    obtain ⟨ms, em, lm⟩ := cutInts ns none (some 63)
    refine ⟨_, rfl, _, rfl, a, _, rfl, s1.seq hS, fun p np => ?_⟩
    have s2 : Same (upd H d (.dK [])) (upd (upd H d (.dK [])) p (.lst (cutV (ns.map V.int) none (some 63)))) := same_upd np
    refine ⟨p, _, rfl, .inl (SqL.of upd_same), fun c nc => ?_⟩
    have s3 : Same (upd (upd H d (.dK [])) p (.lst (cutV (ns.map V.int) none (some 63)))) (upd (upd (upd H d (.dK [])) p (.lst (cutV (ns.map V.int) none (some 63)))) c (.lst (cutV (ns.map V.int) none (some 63)))) := same_upd nc
    have hd := (s2.trans s3) _ _ (upd_same (H := H) (a := d) (o := .dK []))
    refine ⟨hd, [(kC, .ref c), (kT, .int 0), (kL, .int 0)], rfl, by show 3 ≤ 15; decide, ?_⟩
    have ncd : c ≠ d := Ne.symm (ne_of_none (s2 _ _ upd_same) nc)
    refine k d c ms _ ⟨_, 0, 0, upd_same, ?_, ?_, ?_, Int.le_refl _, Int.le_refl _, ?_, ?_, by omega⟩ (fun b o e => ?_) nd ?_
    · show valV (putK (putK (putK [] kC (.ref c)) kT (.int 0)) kL (.int 0)) kC = _
      rw [valV_put, if_neg nCL, valV_put, if_neg nCT, valV_put, if_pos rfl]
    · show valV (putK (putK (putK [] kC (.ref c)) kT (.int 0)) kL (.int 0)) kT = _
      rw [valV_put, if_neg nTL, valV_put, if_pos rfl]
    · show valV (putK (putK (putK [] kC (.ref c)) kT (.int 0)) kL (.int 0)) kL = _
      rw [valV_put, if_pos rfl]
    · exact length_mergeK _ _
    · rw [upd_ne ncd, upd_same, em]
    · rw [upd_ne (ne_of_none e nd)]
      exact (s1.trans (s2.trans s3)) _ _ e
    · exact (s1.trans s2).free nc
end
end LA
end
section
set_option Elab.async false
set_option linter.all false
set_option maxRecDepth 100000
set_option maxHeartbeats 4100000
namespace XS
open PySem PySem.Spec PyProof.Rows L2
section
variable {X : Cx} {pins : List (Addr × Obj)} {σ : L2.St} {H : Hp} {s : Shared} {f : Addr} {fd : FuncData} {x qual : Str} {st : Stmt} {z : Str} {k : Nat}
/-- a def without parameters that hands back a written text: a token is out behind it -/
theorem run_lit {j : Nat} {p1 p2 : Pos} (F : Fun X.K x qual st f fd) (S : FnScope [] [] (defScope st)) (hb : defBody st = [.Return (some (.Constant (.str z) j p1)) p2]) (bind : ∀ s, BindsTo s fd ⟨[], []⟩ []) (nc : (defScope st).names = []) (hr : Room k X.A)
    (I : Inv X pins σ H s) : wpAny (model X.prog X.w) X.A (call (.ref f) []) (fun v s1 => 1 ≤ s1.toks ∧ ∃ t, v = .str z t ∧ Inv X pins σ H s1) X.xe s := by
  obtain ⟨oc, od, kV, doc, pm, an, cdv, ct, osl, rfl, lk, co⟩ := F.ex
  refine wpAny_call (Att.call_fn (binds := []) I.kIn I.nolimit lk co hr.depth (bind s) rfl (fun s₁ IC => ?_) S.co S.gen S.kind)
  obtain ⟨h₁, tk₁, rfl⟩ := IC.toInCall.same
  rw [hb]
  show wpAny _ _ (execs _ _) _ _ _
  refine wpAny_execs_cons (wpAny_Return_some (Calls.Constant_str ?_))
  refine ⟨Nat.succ_le_succ (Nat.zero_le _), tk₁, rfl, ?_⟩
  exact I.kept (t' := tk₁ + 1) fun b o e => IC.toInCall.keep b o e
/-- signs().replace(y, w) -/
theorem pe_litRepl {j j0 j1 : Nat} {y w : Str} {p p1 p2 q apos pos c0 c1 : Pos} (F : Fun X.K x qual st f fd) (S : FnScope [] [] (defScope st)) (hb : defBody st = [.Return (some (.Constant (.str z) j p1)) p2]) (bind : ∀ s, BindsTo s fd ⟨[], []⟩ []) (nc : (defScope st).names = []) (hr : Room k X.A)
    (gF : X.mg x = some (.ref f)) (hyz : (y == w) = false) (hl : z.length + (z.length + 1) * w.length ≤ 16777216) (hg : Gl X x := by rfl) (hdb : (x == ("__debug__" : Str)) = false := by decide)
    (hst : starEach [.Constant (.str y) j0 c0, .Constant (.str w) j1 c1] X.env = [(false, eval (.Constant (.str y) j0 c0) X.env), (false, eval (.Constant (.str w) j1 c1) X.env)] := by rfl)
    (hbase : attributeBase (.Call (.Name x p) [] [] q) "replace" X.env (eval (.Call (.Name x p) [] [] q) X.env) = eval (.Call (.Name x p) [] [] q) X.env := by rfl) (hline : (apos.endLine == pos.line) = true := by rfl) :
    PE X (.Call (.Attribute (.Call (.Name x p) [] [] q) "replace" apos) [.Constant (.str y) j0 c0, .Constant (.str w) j1 c1] [] pos) (tC (.str (Txt.replace z y w))) := by
  refine ⟨fun pins s σ H Q I h => ?_⟩
  refine PySem.Call_method2 hbase hst hline ?_
  refine wpAny_Call_Name_kw (ld_glob I hg gF ?_ hdb)
  refine PySem.W.callWith_K0 I.kIn F.kp ?_
  refine wpAny_mono (run_lit F S hb bind nc hr I) (fun v s1 hv => ?_) fun _ _ e => e
  obtain ⟨one, tx, rfl, I1⟩ := hv
  refine ⟨"str", _, PySem.F.plainAttrs_str, PySem.F.slot_str_replace, PySem.F.type_str_replace, typeIs_str _ _ _, (fun _ e => nomatch e), Calls.callWith_builtin rfl (Calls.evalArgs_plain (Calls.spliced_cons ?_))⟩
  refine Calls.Constant_str (Calls.spliced_cons (Calls.Constant_str (Calls.spliced_nil ?_)))
  refine PySem.SC.replace (by show s1.toks ≠ 0; omega) (by show s1.toks + 1 ≠ 0; omega) (by show s1.toks ≠ s1.toks + 1; omega) hyz hl fun t' k => ?_
  exact ⟨.str (Txt.replace z y w), H, I1.tok k, ⟨t', rfl⟩, h⟩
end
/-! ### texts by their codes -/
/-- a text's codes -/
abbrev cod (z : Str) : List Nat := z.cps.toList
theorem len_cod (z : Str) : (cod z).length = z.length := by
  show z.cps.toList.length = z.cps.size
  simp
theorem cod_ext {a b : Str} (h : cod a = cod b) : a = b := by
  obtain ⟨⟨x⟩⟩ := a
  obtain ⟨⟨y⟩⟩ := b
  have h' : x = y := h
  rw [h']
/-- the text of one sign -/
def sg (c : Nat) : Str := ⟨#[c]⟩
theorem joinL_sg : ∀ cs : List Nat, TL.joinL [] (cs.map fun c => [c]) = cs := by
  intro cs
  induction cs with
  | nil => rfl
  | cons c r ih =>
    cases r with
    | nil => rfl
    | cons d r' =>
      show [c] ++ [] ++ TL.joinL [] ((d :: r').map fun c => [c]) = c :: d :: r'
      rw [ih]
      rfl
theorem join_sg (cs : List Nat) : cod (Txt.join ⟨#[]⟩ (cs.map sg)) = cs := by
  have h := SX.join_S [] (cs.map fun c => [c])
  rw [joinL_sg] at h
  have e : (cs.map fun c => [c]).map SX.S = cs.map sg := by
    rw [List.map_map]
    rfl
  rw [e] at h
  show (Txt.join (SX.S []) (cs.map sg)).cps.toList = cs
  rw [h]
theorem sg_inj {c d : Nat} (h : sg c = sg d) : c = d := by
  have e : #[c] = #[d] := congrArg Str.cps h
  simpa using e
end XS
end
section
set_option Elab.async false
set_option linter.all false
set_option maxRecDepth 100000
set_option maxHeartbeats 4100000
namespace LA
open PySem L2 XS
abbrev sSigns : Stmt := top 64
abbrev sFew : Stmt := top 66
abbrev sRow : Stmt := top 67
def Lt (c : Nat) : Prop := 32 ≤ c ∧ c ≤ 126 ∧ c ≠ 37
instance : DecidablePred Lt := fun c => inferInstanceAs (Decidable (_ ∧ _ ∧ _))
/-- two or three unlike letters -/
structure Sgn (z : Str) : Prop where
  lets : ∀ c ∈ cod z, Lt c
  nd : (cod z).Nodup
  two : 2 ≤ z.length
  three : z.length ≤ 3
  nq : ∀ c ∈ cod z, c ≠ 113
def sgsZ : Str := " !\"#$&'()*+,-./0123456789:;<=>?@ABCDEFGHIJKLMNOPQRSTUVWXYZ[\\]^_`abcdefghijklmnopqrstuvwxyz{|}~"
theorem few_lets : ∀ c ∈ cod (Txt.replace sgsZ "q" ""), Lt c := by decide +kernel
theorem few_nq : ∀ c ∈ cod (Txt.replace sgsZ "q" ""), c ≠ 113 := by decide +kernel
theorem few_len : (Txt.replace sgsZ "q" "").length = 93 := by decide +kernel
theorem sg_str (c : Nat) : (V.str (sg c)) = V.str ⟨#[c]⟩ := rfl
theorem len_sg (c : Nat) : (sg c).length = 1 := rfl
section
variable {P : Program} {w : World} {K : PySem.W.Frag} {mg : Str → Option Value} {base : Heap}
/-- pick: of a list, or of a text -/
def spPick : Sp := fun vs H Q _ => ∃ (d c : Addr) (n : Int) (ns : List Int) (o : V), vs = [.ref d, o] ∧ PenAt H d c n ns ∧ n < 1000000 ∧
  ((∃ (l : Addr) (xs : List V), o = .ref l ∧ H l = some (.lst xs) ∧ 0 < xs.length ∧ xs.length < 1000000 ∧ ∀ (v : V) (H' : Hp), v ∈ xs → PenAt H' d c (n + 1) ns → But d H H' → Q v H') ∨
   (∃ (z : Str), o = .str z ∧ 0 < z.length ∧ z.length < 1000000 ∧ ∀ (k : Nat) (H' : Hp), k ∈ cod z → PenAt H' d c (n + 1) ns → But d H H' → Q (.str (sg k)) H'))
theorem scP : FnScope ["_law_pen_here", "_law_options"] ["_law_pen_here", "_law_options"] (defScope sPick) := ⟨rfl, rfl, rfl, by decide +kernel, rfl, by decide +kernel, by decide +kernel⟩
theorem ok_pick {f fD : Addr} {fd fdD : FuncData} (F : Fun K "_law_pick" "_law_pick" sPick f fd) (T : Txt mg) (GD : FnOk P w K mg base CX0 1 fD fdD ["_law_pen_here", "_law_span"] spDraw) (mD : mg "_law_draw" = some (.ref fD)) (kD : PySem.W.keepIn K (.ref fD) = true) (bD : Binds K fdD ["_law_pen_here", "_law_span"] []) :
    FnOk P w K mg base CX0 2 f fd ["_law_pen_here", "_law_options"] spPick := by
  refine F.ok scP (fun vs H Q E h => ?_) (fun cdv A outer s H vs Q E hr h => ?_)
  · obtain ⟨d, c, n, ns, o, rfl, _⟩ := h
    rfl
  · obtain ⟨d, c, n, ns, o, rfl, pen, hn, k⟩ := h
    refine ⟨_, pss_one (by exact (ps_ret (pe_ix ix_seq (pv 1) (pe_call GD hr rfl mD kD bD .nil pass0 (pa_cons (pv 0) (pa_cons (pe_callB call_len (by rfl) T.len PySem.boot_len (pa_cons (pv 1) pa_nil)) pa_nil))) (fun _ _ => rfl)))), ?_⟩
    rcases k with ⟨l, xs, rfl, hl, h0, h1, k⟩ | ⟨z, rfl, h0, h1, k⟩
    · have nld : l ≠ d := by
        obtain ⟨_, _, _, p⟩ := pen
        exact ne_of hl p.dc (by intro z; cases z)
      refine ⟨_, rfl, _, rfl, _, rfl, _, xs.length, rfl, .inl ⟨_, SqL.of hl, rfl⟩, ?_⟩
      refine ⟨d, c, n, ns, (xs.length : Int), rfl, pen, hn, by omega, by omega, fun r H' r0 r1 pen' but => ?_⟩
      obtain ⟨j, rfl⟩ := Int.eq_ofNat_of_zero_le r0
      have hj : j < xs.length := by omega
      refine .inl ⟨l, xs, _, xs[j], rfl, rfl, SqL.of (but _ _ hl nld), atI_nat (List.getElem?_eq_getElem hj), ?_⟩
      exact k _ _ (List.getElem_mem hj) pen' but
    · refine ⟨_, rfl, _, rfl, _, rfl, _, z.length, rfl, ⟨Nat.le_trans (Nat.le_of_lt h1) (by decide), rfl⟩, ?_⟩
      refine ⟨d, c, n, ns, (z.length : Int), rfl, pen, hn, by omega, by omega, fun r H' r0 r1 pen' but => ?_⟩
      obtain ⟨j, rfl⟩ := Int.eq_ofNat_of_zero_le r0
      have hj : j < (cod z).length := by rw [len_cod]; omega
      refine .inr (.inr ⟨z, _, (cod z)[j], rfl, rfl, Nat.le_trans (Nat.le_of_lt h1) (by decide), atI_nat (List.getElem?_eq_getElem hj), ?_⟩)
      exact k _ _ (List.getElem_mem hj) pen' but
structure PickAt (P : Program) (w : World) (K : PySem.W.Frag) (mg : Str → Option Value) (base : Heap) (f : Addr) (fd : FuncData) : Prop where
  ok : FnOk P w K mg base CX0 2 f fd ["_law_pen_here", "_law_options"] spPick
  m : mg "_law_pick" = some (.ref f)
  k : PySem.W.keepIn K (.ref f) = true
  b : Binds K fd ["_law_pen_here", "_law_options"] []
/-- few: two or three unlike letters -/
def spFew : Sp := fun vs H Q _ => ∃ (d c : Addr) (n : Int) (ns : List Int), vs = [.ref d] ∧ PenAt H d c n ns ∧ n + 4 < 1000000 ∧
  ∀ (z : Str) (H' : Hp), Sgn z → PenAt H' d c (n + 4) ns → But d H H' → Q (.str z) H'
theorem scF : FnScope ["_law_pen_here", "_law_some", "_law_rare", "_law_k"] ["_law_pen_here"] (defScope sFew) := ⟨rfl, rfl, rfl, by decide +kernel, rfl, by decide +kernel, by decide +kernel⟩
theorem scG : FnScope [] [] (defScope sSigns) := ⟨rfl, rfl, rfl, by decide +kernel, rfl, by decide +kernel, by decide +kernel⟩
def cs (l : List Nat) : List V := l.map fun c => V.str (sg c)
theorem cs_flat (l : List Nat) : (cs l).all flatV = true := by
  simp [cs, flatV]
theorem cs_in (c : Nat) (l : List Nat) : inV (.str (sg c)) (cs l) = decide (c ∈ l) := by
  induction l with
  | nil => rfl
  | cons a r ih =>
    have h : inV (.str (sg c)) (cs (a :: r)) = (eqV (.str (sg a)) (.str (sg c)) || inV (.str (sg c)) (cs r)) := rfl
    rw [h, ih]
    show ((sg a == sg c) || _) = _
    by_cases e : a = c
    · subst e
      simp
    · have : (sg a == sg c) = false := by
        rw [beq_eq_false_iff_ne]
        exact fun z => e (sg_inj z)
      rw [this, Bool.false_or]
      have e' : ¬ c = a := fun z => e z.symm
      simp [e']
theorem cs_cut (l : List Nat) (i : Nat) : cutV (cs l) none (some (i : Int)) = cs (l.take i) := by
  unfold cutV cs
  rw [HT.sIx_nat, HT.sIx_none, List.drop_zero, List.length_map, Nat.sub_zero, ← List.map_take]
  congr 1
  rw [List.take_eq_take_iff]
  omega
theorem cs_strs (l : List Nat) : cs l = (l.map sg).map V.str := by
  unfold cs
  rw [List.map_map]
  rfl
theorem sum_sg (l : List Nat) : ((l.map sg).map (·.length)).sum = l.length := by
  induction l with
  | nil => rfl
  | cons a r ih =>
    rw [List.map_cons, List.map_cons, List.sum_cons, ih, len_sg, List.length_cons]
    omega
theorem sgn_some : ∀ z ∈ (["ab", "abc", "a ", "x~", "01", "\"\\"] : List Str), Sgn z := by
  intro z hz
  simp only [List.mem_cons, List.not_mem_nil, or_false] at hz
  rcases hz with rfl | rfl | rfl | rfl | rfl | rfl <;> exact ⟨by decide +kernel, by decide +kernel, by decide +kernel, by decide +kernel, by decide +kernel⟩
theorem yz_nq : ∀ c ∈ cod "yz", c ≠ 113 := by decide +kernel
theorem yz_lets : ∀ c ∈ cod "yz", Lt c ∧ c ≠ 40 := by decide +kernel
theorem par_is : ∀ c ∈ cod "(", c = 40 := by decide +kernel
theorem PenAt.put {H : Hp} {d c D : Addr} {n : Int} {ns : List Int} {o : HO} (p : PenAt H d c n ns) (h1 : D ≠ d) (h2 : D ≠ c) : PenAt (upd H D o) d c n ns := by
  obtain ⟨kvs, t, l, q⟩ := p
  exact ⟨kvs, t, l, by rw [upd_ne h1.symm]; exact q.dc, q.vc, q.vt, q.vl, q.t0, q.tn, q.sz, by rw [upd_ne h2.symm]; exact q.cs, q.cl⟩
theorem PenAt.fresh {H : Hp} {d c D : Addr} {n : Int} {ns : List Int} (p : PenAt H d c n ns) (h : H D = none) : D ≠ d ∧ D ≠ c := by
  obtain ⟨kvs, t, l, q⟩ := p
  exact ⟨(ne_of_none q.dc h).symm, (ne_of_none q.cs h).symm⟩
theorem PenAt.n0 {H : Hp} {d c : Addr} {n : Int} {ns : List Int} (p : PenAt H d c n ns) : 0 ≤ n := by
  obtain ⟨kvs, t, l, q⟩ := p
  exact Int.le_trans q.t0 q.tn
theorem But.none {d D : Addr} {H G : Hp} (b : But d H G) (n : D ≠ d) (h : G D = Option.none) : H D = Option.none := by
  cases e : H D with
  | none => rfl
  | some o => exact absurd ((b _ _ e n).symm.trans h) (by simp)
theorem But.put {d D : Addr} {H G : Hp} {o : HO} (b : But d H G) (h : H D = Option.none) : But d H (upd G D o) := fun c u e n => by
  rw [upd_ne (ne_of_none e h)]
  exact b c u e n
theorem ok_few {f fS fP : Addr} {fd fdS fdP : FuncData} (F : Fun K "_law_few" "_law_few" sFew f fd) (T : Txt mg) (mR : mg "range" = none) (M : PickAt P w K mg base fP fdP) (FS : Fun K "_law_signs" "_law_signs" sSigns fS fdS) (bS : ∀ s, BindsTo s fdS ⟨[], []⟩ []) (mS : mg "_law_signs" = some (.ref fS)) :
    FnOk P w K mg base CX0 3 f fd ["_law_pen_here"] spFew := by
  refine F.ok scF (fun vs H Q E h => ?_) (fun cdv A outer s H vs Q E hr h => ?_)
  · obtain ⟨d, c, n, ns, rfl, _⟩ := h
    rfl
  · obtain ⟨d, c, n, ns, rfl, pen, hn, k⟩ := h
    have hr2 : Room 2 _ := hr.mono (by decide)
    have hr1 : Room 1 _ := hr.mono (by decide)
    refine ⟨_, pss_cons (by exact (ps_set (i := 1) scF.nd rfl (Or.inr rfl) (pe_lst (pa_cons (pe_call M.ok hr2 rfl M.m M.k M.b .nil pass0 (pa_cons (pv 0) (pa_cons (XS.pe_litRepl FS scG rfl bS rfl hr1 mS (by decide +kernel) (by decide +kernel)) pa_nil))) (pa_cons (pe_call M.ok hr2 rfl M.m M.k M.b .nil pass0 (pa_cons (pv 0) (pa_cons pe_str pa_nil))) (pa_cons (pe_call M.ok hr2 rfl M.m M.k M.b .nil pass0 (pa_cons (pv 0) (pa_cons pe_str pa_nil))) pa_nil)))))) (
      pss_cons (by exact (ps_set (i := 2) scF.nd rfl (.inl rfl) (pe_join pe_str (pe_lc (own := [("_law_k", 3)]) (g := gName 3) (tt := tTest (tOp (rIn K true) (tOp (rIxL K) (tVar 1) (tVar 3)) (tSl (rSlL K) (tVar 1) tNoPart (tPart (tVar 3))))) (te := tOp (rIxL K) (tVar 1) (tVar 3)) rfl scF.nd (pi_range1 rfl mR (pa_cons pe_int pa_nil))
        (blkOk_by (N := ["_law_pen_here", "_law_some", "_law_rare", "_law_k"]) (sc := defScope sFew) (by decide +kernel))
        (fun _ _ _ _ _ => by exact (pg_name (i := 3) scF.nd rfl (Or.inl rfl)))
        (fun _ _ _ _ _ => by exact (pts_one (pt_cmpR op_notIn_seq (pe_ix ix_list (pv 1) (pv 3) (fun _ _ => rfl)) (pe_slice sl_list (pv 1) po_none (po_some (pv 3))) (by rfl))))
        (fun _ _ _ _ _ => by exact (pe_ix ix_list (pv 1) (pv 3) (fun _ _ => rfl))))))) (
      pss_one (by exact (ps_ret (pe_call M.ok hr2 rfl M.m M.k M.b .nil pass0 (pa_cons (pv 0) (pa_cons (pe_lst (pa_cons pe_str (pa_cons pe_str (pa_cons pe_str (pa_cons pe_str (pa_cons pe_str (pa_cons pe_str (pa_cons pe_str (pa_cons pe_str (pa_cons (pv 2) pa_nil)))))))))) pa_nil))))))), ?_⟩
    refine ⟨_, rfl, d, c, n, ns, _, rfl, pen, by omega, .inr ⟨_, rfl, (by show 0 < (Txt.replace sgsZ "q" "").length; rw [few_len]; decide), (by show (Txt.replace sgsZ "q" "").length < 1000000; rw [few_len]; decide), fun a H1 ha pen1 b1 => ?_⟩⟩
    refine ⟨_, rfl, d, c, n + 1, ns, _, rfl, pen1, by omega, .inr ⟨_, rfl, (by decide +kernel), (by decide +kernel), fun b H2 hb pen2 b2 => ?_⟩⟩
    refine ⟨_, rfl, d, c, n + 1 + 1, ns, _, rfl, pen2, by omega, .inr ⟨_, rfl, (by decide +kernel), (by decide +kernel), fun e H3 he pen3 b3 => ?_⟩⟩
    obtain ⟨lb, nb⟩ := yz_lets b hb
    have la := few_lets a ha
    have qa := few_nq a ha
    have qb := yz_nq b hb
    have le := par_is e he
    subst le
    refine ⟨(by show 3 ≤ sizeLine; decide), fun L nL => ?_⟩
    have bb : But d H (upd H3 L (.lst (cs [a, b, 40]))) := ((b1.trans b2).trans b3).trans (But.same (same_upd nL))
    have pen4 := pen3.keep (same_upd (o := .lst (cs [a, b, 40])) nL)
    have hL : (upd H3 L (.lst (cs [a, b, 40]))) L = some (.lst (cs [a, b, 40])) := upd_same
    refine ⟨⟨_, rfl⟩, ?_⟩
    refine ⟨3, rfl, by decide, by decide, fun D nD => ?_⟩
    have nLD : L ≠ D := ne_of_none hL nD
    obtain ⟨nDd, nDc⟩ := pen4.fresh nD
    have nH : H D = none := bb.none nDd nD
    have hb0 : ∀ i, i < 3 → ∃ x, [a, b, 40][i]? = some x := fun i hi => ⟨[a, b, 40][i], List.getElem?_eq_getElem hi⟩
    refine lc_range (fun i G => ∃ ds : List Nat, G D = some (.lst (cs ds)) ∧ ds.Nodup ∧ (∀ x, x ∈ ds ↔ x ∈ [a, b, 40].take i) ∧ ds.length ≤ i ∧ G L = some (.lst (cs [a, b, 40])) ∧ PenAt G d c (n + 1 + 1 + 1) ns ∧ But d H G)
      ⟨[], upd_same, List.nodup_nil, fun x => by simp, Nat.le_refl _, (same_upd nD) _ _ hL, pen4.keep (same_upd nD), bb.trans (But.same (same_upd nD))⟩ (fun i G hi p => ?_) (fun G p => ?_)
    · obtain ⟨ds, pD, nd, mem, len, pL, pP, pB⟩ := p
      obtain ⟨x, hx⟩ := hb0 i hi
      have hx' : (cs [a, b, 40])[i]? = some (V.str (sg x)) := by
        unfold cs
        rw [List.getElem?_map, hx]
        rfl
      refine ⟨rfl, ?_⟩
      refine ⟨_, rfl, _, rfl, L, _, _, _, rfl, rfl, SqL.of pL, (by rw [Int.zero_add]; exact atI_nat hx'), ?_⟩
      refine ⟨_, rfl, _, rfl, _, rfl, L, _, rfl, SqL.of pL, fun S nS => ?_⟩
      rw [Int.zero_add, cs_cut]
      refine ⟨S, cs ([a, b, 40].take i), rfl, .inl (SqL.of upd_same), rfl, cs_flat _, _, rfl, ?_⟩
      rw [if_pos rfl, cs_in]
      have sm := fun o => same_upd (o := o) nS
      have tk : [a, b, 40].take (i + 1) = [a, b, 40].take i ++ [x] := by rw [List.take_succ, hx]; rfl
      by_cases mx : x ∈ [a, b, 40].take i
      · rw [decide_eq_true mx]
        refine iteF ⟨ds, sm _ _ _ pD, nd, fun y => ?_, by omega, sm _ _ _ pL, pP.keep (sm _), pB.trans (But.same (sm _))⟩
        rw [mem, tk, List.mem_append, List.mem_singleton]
        exact ⟨.inl, fun h => h.elim id fun e => e ▸ mx⟩
      · rw [decide_eq_false mx]
        refine iteT ?_
        refine ⟨_, rfl, _, rfl, L, _, _, _, rfl, rfl, SqL.of (sm _ _ _ pL), (atI_nat hx'), ?_⟩
        refine ⟨_, sm _ _ _ pD, Nat.lt_of_le_of_lt (by unfold cs; rw [List.length_map]; omega : _ ≤ 3) (by decide), ds ++ [x], ?_, ?_, ?_, ?_, ?_, ?_, ?_⟩
        · unfold cs
          rw [List.map_append]
          exact upd_same
        · rw [List.nodup_append]
          refine ⟨nd, List.nodup_cons.mpr ⟨by simp, List.nodup_nil⟩, fun y hy z hz => ?_⟩
          rw [List.mem_singleton] at hz
          subst hz
          exact fun e => mx (e ▸ (mem y).mp hy)
        · intro y
          rw [List.mem_append, mem, tk, List.mem_append]
        · rw [List.length_append]
          exact Nat.add_le_add len (Nat.le_refl 1)
        · rw [upd_ne nLD]
          exact sm _ _ _ pL
        · exact (pP.keep (sm _)).put nDd nDc
        · exact (pB.trans (But.same (sm _))).put nH
    · obtain ⟨ds, pD, nd, mem, len, pL, pP, pB⟩ := p
      replace mem : ∀ x, x ∈ ds ↔ x ∈ [a, b, 40] := mem
      replace len : ds.length ≤ 3 := len
      have hl : 2 ≤ ds.length := by
        rcases ds with _ | ⟨x, _ | ⟨y, r⟩⟩
        · exact absurd ((mem 40).mpr (by simp)) (by simp)
        · have h1 := (mem 40).mpr (by simp)
          have h2 := (mem b).mpr (by simp)
          rw [List.mem_singleton] at h1 h2
          exact absurd (h2.trans h1.symm) nb
        · simp
      refine ⟨_, D, ds.map sg, rfl, rfl, .inl (by rw [← cs_strs]; exact SqL.of pD), (by rw [sum_sg, List.length_map]; show ds.length + ds.length * 0 ≤ 16777216; omega), ?_⟩
      have ej : cod (Txt.join "" (ds.map sg)) = ds := join_sg ds
      have sj : Sgn (Txt.join "" (ds.map sg)) := by
        refine ⟨?_, ?_, ?_, ?_, ?_⟩
        · rw [ej]
          intro x hx
          have h := (mem x).mp hx
          simp only [List.mem_cons, List.not_mem_nil, or_false] at h
          rcases h with rfl | rfl | rfl
          · exact la
          · exact lb
          · decide
        · rw [ej]
          exact nd
        · rw [← len_cod, ej]
          exact hl
        · rw [← len_cod, ej]
          exact len
        · rw [ej]
          intro x hx
          have h := (mem x).mp hx
          simp only [List.mem_cons, List.not_mem_nil, or_false] at h
          rcases h with rfl | rfl | rfl
          · exact qa
          · exact qb
          · decide
      generalize Txt.join "" (ds.map sg) = rare at sj
      refine ⟨_, rfl, _, rfl, (by show 9 ≤ sizeLine; decide), fun N nN => ?_⟩
      have sN := same_upd (o := .lst [.str "ab", .str "ab", .str "abc", .str "abc", .str "a ", .str "x~", .str "01", .str "\"\\", .str rare]) nN
      refine ⟨d, c, n + 1 + 1 + 1, ns, _, rfl, pP.keep sN, by omega, .inl ⟨N, _, rfl, upd_same, (by show 0 < 9; decide), (by show 9 < 1000000; decide), fun v H' hv pen5 b5 => ?_⟩⟩
      have hs : ∃ z, v = .str z ∧ Sgn z := by
        simp only [List.mem_cons, List.not_mem_nil, or_false] at hv
        rcases hv with rfl | rfl | rfl | rfl | rfl | rfl | rfl | rfl | rfl
        all_goals first | exact ⟨_, rfl, sj⟩ | exact ⟨_, rfl, sgn_some _ (by simp)⟩
      obtain ⟨z, rfl, sz⟩ := hs
      exact k z H' sz (by have e : n + 1 + 1 + 1 + 1 = n + 4 := by omega
                          rw [← e]; exact pen5) ((pB.trans (But.same sN)).trans b5)
/-- row: a line of the letters -/
def spRow : Sp := fun vs H Q _ => ∃ (d c : Addr) (n : Int) (ns : List Int) (z : Str) (a b : Int), vs = [.ref d, .str z, .int a, .int b] ∧ PenAt H d c n ns ∧ n + 1 + b < 1000000 ∧ 0 < z.length ∧ z.length < 1000000 ∧ 0 ≤ a ∧ a ≤ b ∧
  ∀ (y : Str) (H' : Hp), (∀ c ∈ cod y, c ∈ cod z) → a ≤ y.length → (y.length : Int) ≤ b → PenAt H' d c (n + 1 + b) ns → But d H H' → Q (.str y) H'
theorem scR : FnScope ["_law_pen_here", "_law_signs_here", "_law_least", "_law_most_letters", "_law_span", "_law_k"] ["_law_pen_here", "_law_signs_here", "_law_least", "_law_most_letters"] (defScope sRow) := ⟨rfl, rfl, rfl, by decide +kernel, rfl, by decide +kernel, by decide +kernel⟩
theorem ok_row {f fD fP : Addr} {fd fdD fdP : FuncData} (F : Fun K "_law_row" "_law_row" sRow f fd) (T : Txt mg) (mR : mg "range" = none) (M : PickAt P w K mg base fP fdP) (GD : FnOk P w K mg base CX0 1 fD fdD ["_law_pen_here", "_law_span"] spDraw) (mD : mg "_law_draw" = some (.ref fD)) (kD : PySem.W.keepIn K (.ref fD) = true) (bD : Binds K fdD ["_law_pen_here", "_law_span"] []) :
    FnOk P w K mg base CX0 3 f fd ["_law_pen_here", "_law_signs_here", "_law_least", "_law_most_letters"] spRow := by
  refine F.ok scR (fun vs H Q E h => ?_) (fun cdv A outer s H vs Q E hr h => ?_)
  · obtain ⟨d, c, n, ns, z, a, b, rfl, _⟩ := h
    rfl
  · obtain ⟨d, c, n, ns, z, a, b, rfl, pen, hn, z0, z1, ha, hb, k⟩ := h
    have hr2 : Room 2 _ := hr.mono (by decide)
    have hr1 : Room 1 _ := hr.mono (by decide)
    refine ⟨_, pss_cons (by exact (ps_set (i := 4) scR.nd rfl (.inl rfl) (pe_op op_add (pv 2) (pe_call GD hr1 rfl mD kD bD .nil pass0 (pa_cons (pv 0) (pa_cons (pe_op op_add (pe_op op_sub (pv 3) (pv 2)) pe_int) pa_nil)))))) (
      pss_one (by exact (ps_ret (pe_join pe_str (pe_lc (own := [("_law_k", 5)]) (g := gName 5) (tt := tYes) (te := tCall spPick [] (fun _ _ _ => False) (tCons (tVar 0) (tCons (tVar 1) tNil))) rfl scR.nd (pi_range1 rfl mR (pa_cons (pv 4) pa_nil))
        (blkOk_by (N := ["_law_pen_here", "_law_signs_here", "_law_least", "_law_most_letters", "_law_span", "_law_k"]) (sc := defScope sRow) (by decide +kernel))
        (fun _ _ _ _ _ => by exact (pg_name (i := 5) scR.nd rfl (Or.inl rfl)))
        (fun _ _ _ _ _ => by exact pts_nil)
        (fun _ _ _ _ _ => by exact (pe_call M.ok hr2 rfl M.m M.k M.b .nil pass0 (pa_cons (pv 0) (pa_cons (pv 1) pa_nil))))))))), ?_⟩
    refine ⟨_, rfl, _, rfl, _, rfl, _, rfl, _, _, rfl, rfl, _, _, rfl, rfl, ?_⟩
    have n0 := pen.n0
    refine ⟨d, c, n, ns, _, rfl, pen, by omega, by omega, by omega, fun r H1 r0 r1 pen1 b1 => ?_⟩
    refine ⟨_, _, rfl, rfl, ⟨_, rfl⟩, ?_⟩
    refine ⟨_, rfl, a + r, rfl, by omega, by omega, fun D nD => ?_⟩
    obtain ⟨nDd, nDc⟩ := pen1.fresh nD
    have nH : H D = none := b1.none nDd nD
    refine lc_range (fun i G => ∃ ds : List Nat, G D = some (.lst (cs ds)) ∧ (∀ x ∈ ds, x ∈ cod z) ∧ ds.length = i ∧ PenAt G d c (n + 1 + i) ns ∧ But d H G)
      ⟨[], upd_same, (fun x hx => absurd hx (by simp)), rfl, (show PenAt _ d c (n + 1 + (0 : Int)) ns from (Int.add_zero (n + 1)).symm ▸ pen1.put nDd nDc), b1.put nH⟩ (fun i G hi p => ?_) (fun G p => ?_)
    · obtain ⟨ds, pD, mem, len, pP, pB⟩ := p
      refine ⟨rfl, ?_⟩
      dsimp only [tYes]
      rw [if_pos rfl]
      refine ⟨_, rfl, _, rfl, d, c, n + 1 + i, ns, _, rfl, pP, by omega, .inr ⟨z, rfl, z0, z1, fun x G1 hx pP1 b2 => ?_⟩⟩
      refine ⟨_, b2 _ _ pD nDd, Nat.lt_of_le_of_lt (by unfold cs; rw [List.length_map]; omega : _ ≤ 1000000) (by decide), ds ++ [x], ?_, ?_, ?_, ?_, ?_⟩
      · unfold cs
        rw [List.map_append]
        exact upd_same
      · intro y hy
        rcases List.mem_append.mp hy with h | h
        · exact mem y h
        · rw [List.mem_singleton] at h
          exact h ▸ hx
      · rw [List.length_append, len]
        rfl
      · have e : n + 1 + ((i + 1 : Nat) : Int) = n + 1 + i + 1 := by omega
        rw [e]
        exact pP1.put nDd nDc
      · exact (pB.trans b2).put nH
    · obtain ⟨ds, pD, mem, len, pP, pB⟩ := p
      replace len : ds.length = (a + r).toNat := len
      refine ⟨_, D, ds.map sg, rfl, rfl, .inl (by rw [← cs_strs]; exact SqL.of pD), (by rw [sum_sg, List.length_map]; show ds.length + ds.length * 0 ≤ 16777216; omega), ?_⟩
      have ej : cod (Txt.join "" (ds.map sg)) = ds := join_sg ds
      have el : (Txt.join "" (ds.map sg)).length = (a + r).toNat := by rw [← len_cod, ej, len]
      refine k _ _ (by rw [ej]; exact mem) (by rw [el]; omega) (by rw [el]; omega) ?_ pB
      obtain ⟨kvs, t', l', q⟩ := pP
      exact q.more (by show n + 1 + (((a + r).toNat : Nat) : Int) ≤ _; omega)
end
end LA
end
section
set_option Elab.async false
set_option linter.all false
set_option maxRecDepth 100000
set_option maxHeartbeats 4100000
namespace XT
open PySem PySem.Spec PyProof.Rows L2
/-! ### max of a list of ints, with what stands for none -/
section
variable {prog : Program} {w : World} {A : Around} {R : Result → Shared → Prop} {I S : Addr} {fp wr : List Addr} {n : Nat} {P : Nat → Value → Prop} {St : Nat → Heap → Prop} {bt : Nat → Nat → Bool} {d : Value}
def heldBy : Option Value → Array Value
  | none => #[]
  | some v => #[v, v]
def BestOf (P : Nat → Value → Prop) (bt : Nat → Nat → Bool) (d : Value) (n : Nat) (v : Value) : Prop := (n = 0 ∧ v = d) ∨ (0 < n ∧ P (argBest bt (n - 1)) v)
def Have (P : Nat → Value → Prop) (bt : Nat → Nat → Bool) (i : Nat) : Option Value → Prop
  | none => i = 0
  | some v => 0 < i ∧ P (argBest bt (i - 1)) v
theorem max_turns (W : Walks prog w A.in1 I fp wr n P St) (C : CmpOf prog w A.in1 .Gt P bt) (nS : S ∉ fp) : ∀ (k i : Nat) (s : Shared) (b : Option Value) (c : Nat), n = i + k → St i s.heap → Have P bt i b →
    s.heap.get? S = some { cls := .type "list", data := .seq (heldBy b) c } →
    (∀ v h' tk, BestOf P bt d n v → (∀ x o, x ∉ wr → x ≠ S → s.heap.get? x = some o → h'.get? x = some o) → R (.ok (.ret v)) { s with heap := h', toks := tk }) →
    codeAny (model prog w) A (.builtin "max.loop" ⟨[.ref I, .none, .ref S], [("default", d)]⟩) R s := by
  have nW : S ∉ wr := fun h => nS (W.sub _ h)
  intro k
  induction k with
  | zero =>
    intro i s b c e st hb hS q
    obtain rfl : n = i := e
    refine codeAny_builtin
          F.entry_max_loop ?_
    rw [Around.under_plainId
          F.plain_max_loop _]
    show wpAny _ _ (seqItems? (.ref S) >>= _) _ _ s
    refine wpAny_bind
          (wpAny_seqItems hS rfl ?_)
    show wpAny _ _ (tryCatch (pyNext (.ref I)) _ >>= _) _ _ s
    refine wpAny_bind (wpAny_tryCatch (W.done s _ _ st fun h' tk keep => ?_))
    cases b with
    | none =>
      obtain rfl : n = 0 := hb
      show wpAny _ _ (rule _ >>= _) _ _ _
      exact wpAny_bind (wpAny_rule (wpAny_pure (q d h' tk (.inl ⟨rfl, rfl⟩) fun x o h1 _ h3 => keep x o h1 h3)))
    | some v =>
      have hS2 := keep S _ nW hS
      show wpAny _ _ (updateSeq S (fun _ => #[]) >>= _) _ _ _
      refine wpAny_bind (wpAny_updateSeq hS2 rfl (wpAny_bind (wpAny_letGo (wpAny_pure ?_))) (hz := by show 2 ≤ sizeLine; decide))
      exact q v _ tk (.inr hb) fun x o h1 h2 h3 => (Heap.get?_update_other _ _ h2.symm).trans (keep x o h1 h3)
  | succ k ih =>
    intro i s b c e st hb hS q
    have lt : i < n := by omega
    have name : (toString "max" ++ toString ".loop" : String) = "max.loop" := by decide
    refine codeAny_builtin
          F.entry_max_loop ?_
    rw [Around.under_plainId
          F.plain_max_loop _]
    show wpAny _ _ (seqItems? (.ref S) >>= _) _ _ s
    refine wpAny_bind
          (wpAny_seqItems hS rfl ?_)
    show wpAny _ _ (tryCatch (pyNext (.ref I)) _ >>= _) _ _ s
    refine wpAny_bind (wpAny_tryCatch (W.item i s _ _ lt st fun v h' tk hv st2 keep => ?_))
    have hS2 := keep S _ nW hS
    have put : ∀ (x : Array Value), St (i + 1) (h'.update S (Obj.mapSeq fun _ => x)) := fun x => W.frame _ _ _ st2 fun y hy o ey => (Heap.get?_update_other _ _ (fun h : S = y => nS (h ▸ hy))).trans ey
    have old : ∀ (x : Array Value) (y : Addr) (o : Obj), y ∉ wr → y ≠ S → s.heap.get? y = some o → (h'.update S (Obj.mapSeq fun _ => x)).get? y = some o := fun x y o h1 h2 h3 => (Heap.get?_update_other _ _ h2.symm).trans (keep y o h1 h3)
    cases b with
    | none =>
      obtain rfl : i = 0 := hb
      show wpAny _ _ (updateSeq S (fun _ => #[v, v]) >>= _) _ _ _
      refine wpAny_bind
            (wpAny_updateSeq hS2 rfl ?_)
      rw [name]
      refine wpAny_pure ⟨plainId_quiet F.plain_max_loop _, ih 1 _ (some v) _ (by omega) (put _) ⟨Nat.one_pos, hv⟩ (Heap.get?_update_self _ hS2 rfl) fun z h2 t2 hz k2 => ?_⟩
      exact q z h2 t2 hz fun y o h1 h3 h4 => k2 y o h1 h3 (old _ y o h1 h3 h4)
    | some u =>
      obtain ⟨ip, hu⟩ := hb
      show wpAny _ _ (tryCatch (holding [v, v] (richCompare .Gt v u >>= _)) _ >>= _) _ _ _
      refine wpAny_bind (wpAny_tryCatch (wpAny_holding (wpAny_bind (C i (argBest bt (i - 1)) v u _ _ _ hv hu ?_))))
      refine wpAny_bind (wpAny_holding
            (wpAny_truthy_bool ?_))
      refine wpAny_bind
            (wpAny_letGo (wpAny_pure ?_))
      have step : argBest bt i = if bt i (argBest bt (i - 1)) then i else argBest bt (i - 1) := by
        cases i with
        | zero => exact absurd ip (Nat.lt_irrefl 0)
        | succ j => rfl
      cases hc : bt i (argBest bt (i - 1)) with
      | true =>
        rw [hc, if_pos rfl] at step
        simp only [if_true]
        refine wpAny_bind (wpAny_updateSeq hS2 rfl (wpAny_bind (wpAny_letGo ?_)) (hz := by show 2 ≤ sizeLine; decide))
        rw [name]
        refine wpAny_pure ⟨plainId_quiet F.plain_max_loop _, ih (i + 1) _ (some v) _ (by omega) (put _) ⟨Nat.succ_pos _, by rw [Nat.add_sub_cancel, step]; exact hv⟩ (Heap.get?_update_self _ hS2 rfl) fun z h2 t2 hz k2 => ?_⟩
        exact q z h2 t2 hz fun y o h1 h3 h4 => k2 y o h1 h3 (old _ y o h1 h3 h4)
      | false =>
        rw [hc, if_neg (by decide)] at step
        simp only [Bool.false_eq_true,
              if_false]
        refine wpAny_bind
              (wpAny_letGo ?_)
        rw [name]
        refine wpAny_pure ⟨plainId_quiet F.plain_max_loop _, ih (i + 1) _ (some u) c (by omega) st2 ⟨Nat.succ_pos _, by rw [Nat.add_sub_cancel, step]; exact hu⟩ hS2 fun z h2 t2 hz k2 => ?_⟩
        exact q z h2 t2 hz fun y o h1 h3 h4 => k2 y o h1 h3 (keep y o h1 h4)
end
section
variable {prog : Program} {w : World} {A : Around} {E : Value → Shared → Prop} {s : Shared} {l : Addr} {its : List Value} {ns : List Int} {Q : Value → Shared → Prop} {d : Value}
/-- a built-in function by keywords that goes on in a loop of its own -/
theorem call_goes {id : String} {b : Builtin} {args : List Value} {kw : List (Str × Value)} (hk : builtinKind id = none) (hp : plainId id = true) (hb : entryFor table id = some b) (ha : argsOk id ⟨args, kw⟩)
    (hc : wpAny (model prog w) A.in1 (b ⟨args, kw⟩) (fun fin s' => ∃ c, fin = .again c ∧ c.quiet = true ∧ codeAny (model prog w) A c (fun r s₁ => ∃ v, r = .ok (.ret v) ∧ Q v s₁) s') E s) :
    wpAny (model prog w) A (call
          (.builtin id) args kw) Q E s := by
  refine wpAny_call
        (codeAny_call_builtin hp hb ?_)
  have go : wpAny (model prog w) A.in1 (b ⟨args, kw⟩) (fun fin s' => match fin with
      | .done f => (match (Except.ok f : Result) with
        | .ok (.ret v) => Q v s'
        | .ok _ => False
        | .error e => E e s')
      | .again c' => c'.quiet = true ∧ codeAny (model prog w) A c' (fun r s' => match r with | .ok (.ret v) => Q v s' | .ok _ => False | .error e => E e s') s') E s := by
    refine wpAny_mono hc (fun fin s' q => ?_) fun _ _ e => e
    obtain ⟨c, rfl, q1, q2⟩ := q
    refine ⟨q1, codeAny_mono q2 fun r s1 q3 => ?_⟩
    obtain ⟨v, rfl, q4⟩ := q3
    exact q4
  simp only
        [checkBuiltinCall, hk]
  cases sg : Manifest.signature? id with
  | none => exact wpAny_pure go
  | some y =>
    have ok : Bind.checkArgs id y ⟨args, kw⟩ = pure () := by simpa only [argsOk, sg] using ha
    simp only [ok]
    exact wpAny_pure go
theorem max_dflt (hh : A.handled = none) (hl : s.heap.IsList l its.toArray) (hi : IntsAre its ns)
    (h : ∀ h' tk v, (∀ b o, s.heap.get? b = some o → h'.get? b = some o) → (ns = [] ∧ v = d) ∨ (∃ M t, v = .int M t ∧ M ∈ ns ∧ ∀ a ∈ ns, a ≤ M) → Q v { s with heap := h', toks := tk }) : wpAny (model prog w) A (call (.builtin "max") [.ref l] [("default", d)]) Q E s := by
  obtain ⟨xs, e⟩ :=
        hi.allInts.items
  have hn : numsOf (intItems xs).toList
        = ns := by rw [← e]; exact hi.numsOf
  rw [nums_intItems] at hn
  subst hn
  rw [e] at hl
  have name : (toString "max" ++ toString ".loop" : String) = "max.loop" := by decide
  have okA : argsOk "max" ⟨[.ref l], [("default", d)]⟩ := by unfold argsOk; kernel_rfl
  refine call_goes F.kind_max F.plain_max F.entry_max okA ?_
  show wpAny _ A.in1 (Builtin.Builtins.bindParams "max" ["key", "default"] 0 ⟨[], [("default", d)]⟩ >>= _) _ _ s
  refine wpAny_bind (wpAny_of_eq (show Builtin.Builtins.bindParams "max" ["key", "default"] 0 ⟨[], [("default", d)]⟩ = pure [none, some d] from rfl) ?_)
  refine wpAny_bind
        (wpAny_pure ?_)
  refine wpAny_bind (iter_intList hl fun s2 e st fp ne => ?_)
  subst e
  refine wpAny_bind
        (wpAny_newObj_type ?_)
  rw [name]
  have W := Walks.list (prog := prog) (w := w) (A := A.in1) (by exact hh) s.heap.objs.size l ne (intItems xs)
  refine wpAny_pure ⟨_, rfl, plainId_quiet F.plain_max_loop _, ?_⟩
  refine max_turns (d := d) W (CmpOf.ints_gt (numAt xs) fun _ _ => intItems_at) (fun z => Nat.lt_irrefl _ (fp _ z)) _ 0 _ none _ (by rw [Nat.zero_add]) (W.frame _ _ _ st fun b _ o e => Heap.get?_push_of_some _ e) rfl (Heap.get?_push_size _ rfl) fun v h' tk hv keep => ⟨v, rfl, ?_⟩
  refine h h' tk v (fun b o e => ?_) ?_
  · have lt := Heap.lt_size e
    refine keep b o (fun z => ?_) (fun z => ?_) (Heap.get?_push_of_some _ (Heap.get?_push_of_some _ e))
    · exact Nat.ne_of_lt lt (List.mem_singleton.mp z)
    · subst z
      rw [Heap.size_push] at lt
      exact Nat.lt_irrefl _ (Nat.lt_of_succ_lt lt)
  · rcases hv with ⟨n0, rfl⟩ | ⟨np, hv⟩
    · left
      refine ⟨?_, rfl⟩
      have z : xs.size = 0 := by simpa [intItems] using n0
      rw [Array.eq_empty_of_size_eq_zero z]
      rfl
    · right
      obtain ⟨t, rfl⟩
            := intItems_at hv
      have np' : 0 < xs.size := by simpa [intItems] using np
      have e : (intItems xs).size = xs.size := by simp [intItems]
      rw [e]
      obtain ⟨h1, h2⟩ := argBest_gt
            (numAt xs) (xs.size - 1)
      refine ⟨_, t, rfl, ?_, fun a ha => ?_⟩
      · rw [numAt_eq]
        exact PySem.getD_mem (by rw [List.length_map, Array.length_toList]; omega)
      · obtain ⟨j, hj,
            rfl⟩ := mem_getD ha
        rw [List.length_map,
              Array.length_toList] at hj
        rw [← numAt_eq]
        exact h2 j (by omega)
end
section
variable {X : Cx}
/-- max(xs, default=v) of a list of ints: the reading -/
def rMaxOr (K : PySem.W.Frag) : List V → List V → Hp → VK → Prop := fun vs zs H Q => ∃ (a : Addr) (ns : List Int) (i : Int), vs = [V.ref a] ∧ zs = [V.int i] ∧ SqL K H a (ns.map V.int) ∧ ∀ m : Int, (ns = [] ∧ m = i) ∨ (m ∈ ns ∧ ∀ y ∈ ns, y ≤ m) → Q (.int m) H
theorem cr_maxOr (hc : X.calm = true) : CallRK X (.builtin "max") ["default"] (rMaxOr X.K) := by
  intro pins s σ H vs zs us ws Q I r r2 h
  obtain ⟨a, ns, i, rfl, rfl, hs, q⟩ := h
  obtain ⟨its, rv,
        hl, _⟩ := I.list hs
  rw [Vals.ref1 r]
  obtain ⟨u, rfl, t, rfl⟩ := vals1 r2
  refine max_dflt (I.ok.hd hc) hl.isList rv.ints fun h' tk v keep hv => ?_
  rcases hv with ⟨e, rfl⟩ | ⟨M, t2, rfl, h1, h2⟩
  · exact ⟨.int i, H, I.kept keep, ⟨_, rfl⟩, q i (.inl ⟨e, rfl⟩)⟩
  · exact ⟨.int M, H, I.kept keep, ⟨_, rfl⟩, q M (.inr ⟨h1, h2⟩)⟩
/-- any of several readings -/
theorem pe_ex {ι : Sort _} {e : Expr} {t : ι → TE} (h : ∀ i, PE X e (t i)) : PE X e (fun σ H Q => ∃ i, t i σ H Q) :=
  ⟨fun pins s σ H Q I ⟨i, q⟩ => (h i).run pins s σ H Q I q⟩
end
end XT
end
section
set_option Elab.async false
set_option linter.all false
set_option maxRecDepth 100000
set_option maxHeartbeats 4100000
namespace XT
open PySem PySem.Spec PyProof.Rows L2
/-! ### sum of lists, from a list on -/
def lsO (xs : List Value) (c : Nat) : Obj := { cls := .type "list", data := .seq xs.toArray c }
def restOf (L : Nat → List Value) : Nat → Nat → List Value
  | _, 0 => []
  | i, k + 1 => L i ++ restOf L (i + 1) k
section
variable {prog : Program} {w : World} {A : Around} {R : Result → Shared → Prop} {I S : Addr} {fp wr : List Addr} {n : Nat} {P : Nat → Value → Prop} {St : Nat → Heap → Prop}
theorem sum_turns (W : Walks prog w A.in1 I fp wr n P St) (nS : S ∉ fp) (wS : ∀ b ∈ wr, b < S) (B : Nat → Addr) (L : Nat → List Value) (isB : ∀ i v, P i v → v = .ref (B i)) (nB : ∀ i, i < n → B i ∉ wr ∧ B i ≠ S) :
    ∀ (k i : Nat) (s : Shared) (t : Addr) (cur : List Value) (c c1 : Nat), n = i + k → St i s.heap → (∀ j, j < n → ∃ c, s.heap.get? (B j) = some (lsO (L j) c)) →
    s.heap.get? S = some (lsO [.ref t] c) → s.heap.get? t = some (lsO cur c1) → t ≠ S → t ∉ wr → cur.length + (restOf L i k).length ≤ sizeLine →
    (∀ h' tk t' c', h'.get? t' = some (lsO (cur ++ restOf L i k) c') → (S < t ∨ 0 < k → S < t') → (∀ x o, x ∉ wr → x ≠ S → s.heap.get? x = some o → h'.get? x = some o) → R (.ok (.ret (.ref t'))) { s with heap := h', toks := tk }) →
    codeAny (model prog w) A (.builtin "sum.loop" ⟨[.ref I, .ref S, rawInt 2, rawInt 0], []⟩) R s := by
  have nW : S ∉ wr := fun h => nS (W.sub _ h)
  intro k
  induction k with
  | zero =>
    intro i s t cur c c1 e st ls hS ht tS tw fit q
    obtain rfl : n = i := e
    refine codeAny_builtin
          F.entry_sum_loop ?_
    rw [Around.under_plainId
          F.plain_sum_loop _]
    show wpAny _ _ (seqItems? (.ref S) >>= _) _ _ s
    refine wpAny_bind
          (wpAny_seqItems hS rfl ?_)
    show wpAny _ _ (tryCatch (pyNext (.ref I)) _ >>= _) _ _ s
    refine wpAny_bind (wpAny_tryCatch (W.done s _ _ st fun h' tk keep => ?_))
    exact wpAny_pure (q h' tk t c1 (by show _ = some (lsO (cur ++ []) _); rw [List.append_nil]; exact keep t _ tw ht) (fun z => z.elim id fun y => absurd y (Nat.lt_irrefl 0)) fun x o h1 _ h3 => keep x o h1 h3)
  | succ k ih =>
    intro i s t cur c c1 e st ls hS ht tS tw fit q
    have lt : i < n := by omega
    have eR : restOf L i (k + 1) = L i ++ restOf L (i + 1) k := rfl
    rw [eR, List.length_append] at fit
    refine codeAny_builtin
          F.entry_sum_loop ?_
    rw [Around.under_plainId
          F.plain_sum_loop _]
    show wpAny _ _ (seqItems? (.ref S) >>= _) _ _ s
    refine wpAny_bind
          (wpAny_seqItems hS rfl ?_)
    show wpAny _ _ (tryCatch (pyNext (.ref I)) _ >>= _) _ _ s
    refine wpAny_bind (wpAny_tryCatch (W.item i s _ _ lt st fun v h' tk hv st2 keep => ?_))
    obtain rfl := isB i v hv
    obtain ⟨nb1, nb2⟩ := nB i lt
    obtain ⟨cb, hb⟩ := ls i lt
    have hS2 := keep S _ nW hS
    have ht2 := keep t _ tw ht
    have hb2 := keep _ _ nb1 hb
    show wpAny _ _ (Sem.attempt (holding [.ref (B i)] (binaryOp .Add (.ref t) (.ref (B i)))) >>= _) _ _ _
    refine wpAny_bind (wpAny_attempt (wpAny_holding (PySem.P.add_list ht2 hb2 ?_ (by simp only [List.size_toArray]; omega))))
    have eA : cur.toArray ++ (L i).toArray = (cur ++ L i).toArray := by simp
    rw [eA]
    have big : ∀ x o, h'.get? x = some o → (h'.push (lsO (cur ++ L i) 0)).get? x = some o := fun x o e => Heap.get?_push_of_some _ e
    have lS : S < h'.objs.size := Heap.lt_size hS2
    have hS3 := big S _ hS2
    show wpAny _ _ (updateSeq S (fun _ => #[.ref h'.objs.size]) >>= _) _ _ _
    refine wpAny_bind (wpAny_updateSeq hS3 rfl (wpAny_bind (wpAny_letGo ?_)))
    have hS4 := Heap.get?_update_self (Obj.mapSeq fun _ => #[Value.ref h'.objs.size]) hS3 rfl
    show wpAny _ _ (updateSeq S (fun _ => #[.ref h'.objs.size]) >>= _) _ _ _
    refine wpAny_bind (wpAny_updateSeq hS4 rfl ?_)
    have hS5 := Heap.get?_update_self (Obj.mapSeq fun _ => #[Value.ref h'.objs.size]) hS4 rfl
    have far : ∀ x o, x ≠ S → h'.get? x = some o → (((h'.push (lsO (cur ++ L i) 0)).update S (Obj.mapSeq fun _ => #[Value.ref h'.objs.size])).update S (Obj.mapSeq fun _ => #[Value.ref h'.objs.size])).get? x = some o :=
      fun x o h1 h2 => (Heap.get?_update_other _ _ h1.symm).trans ((Heap.get?_update_other _ _ h1.symm).trans (big x o h2))
    have nn : h'.objs.size ≠ S := (Nat.ne_of_lt lS).symm
    have hn : (((h'.push (lsO (cur ++ L i) 0)).update S (Obj.mapSeq fun _ => #[Value.ref h'.objs.size])).update S (Obj.mapSeq fun _ => #[Value.ref h'.objs.size])).get? h'.objs.size = some (lsO (cur ++ L i) 0) :=
      (Heap.get?_update_other _ _ nn.symm).trans ((Heap.get?_update_other _ _ nn.symm).trans (Heap.get?_push_size _ rfl))
    refine wpAny_pure ⟨plainId_quiet F.plain_sum_loop _, ?_⟩
    refine ih (i + 1) { s with heap := ((h'.push (lsO (cur ++ L i) 0)).update S (Obj.mapSeq fun _ => #[Value.ref h'.objs.size])).update S (Obj.mapSeq fun _ => #[Value.ref h'.objs.size]), toks := tk } h'.objs.size (cur ++ L i) _ 0 (by omega) (W.frame _ _ _ st2 fun y hy o ey => far y o (fun z => nS (z ▸ hy)) ey) (fun j hj => ?_) hS5 hn nn ?_ (by rw [List.length_append]; omega) fun h2 t2 u c2 e1 e2 e3 => ?_
    · obtain ⟨cj, hj2⟩ := ls j hj
      obtain ⟨m1, m2⟩ := nB j hj
      exact ⟨cj, far _ _ m2 (keep _ _ m1 hj2)⟩
    · exact fun z => Nat.lt_irrefl _ (Nat.lt_trans lS (wS _ z))
    · refine q h2 t2 u c2 ?_ (fun _ => e2 (.inl lS)) fun x o h1 h3 h4 => e3 x o h1 h3 (far x o h3 (keep x o h1 h4))
      rw [eR, ← List.append_assoc]
      exact e1
end
section
variable {prog : Program} {w : World} {A : Around} {E : Value → Shared → Prop} {s : Shared} {l b : Addr} {items : Array Value} {Q : Value → Shared → Prop} {cur : List Value} {cb : Nat}
theorem sum_lists (hh : A.handled = none) (hl : s.heap.IsList l items) (B : Nat → Addr) (L : Nat → List Value) (hB : ∀ i, i < items.size → items[i]? = some (.ref (B i))) (hL : ∀ i, i < items.size → ∃ c, s.heap.get? (B i) = some (lsO (L i) c))
    (hb : s.heap.get? b = some (lsO cur cb)) (np : 0 < items.size) (fit : cur.length + (restOf L 0 items.size).length ≤ sizeLine)
    (h : ∀ h' tk t' c', h'.get? t' = some (lsO (cur ++ restOf L 0 items.size) c') → s.heap.objs.size ≤ t' → (∀ x o, s.heap.get? x = some o → h'.get? x = some o) → Q (.ref t') { s with heap := h', toks := tk }) :
    wpAny (model prog w) A (call (.builtin "sum") [.ref l, .ref b] []) Q E s := by
  have okA : argsOk "sum" ⟨[.ref l, .ref b], []⟩ := by unfold argsOk; kernel_rfl
  have ll := Heap.lt_size hl.choose_spec.1
  have lb := Heap.lt_size hb
  refine call_goes F.kind_sum F.plain_sum F.entry_sum okA ?_
  unfold Builtin.«sum»
  simp only [List.length_cons,
        List.length_nil]
  rw [if_neg (by decide)]
  refine wpAny_bind (wpAny_of_eq (show Builtin.Builtins.bindParams "sum" ["start"] 0 { pos := [Value.ref b] } = pure [some (.ref b)] from rfl) ?_)
  refine wpAny_bind
        (wpAny_pyIter_list hl ?_)
  refine wpAny_bind
        (wpAny_pure ?_)
  have hb2 : (s.heap.push { cls := .type "list_iterator", data := .fields #[.ref l, .int 0 0] }).get? b = some (lsO cur cb) := Heap.get?_push_of_some _ hb
  have ty : Shared.TypeIs { s with heap := s.heap.push { cls := .type "list_iterator", data := .fields #[.ref l, .int 0 0] } } (.ref b) "list" := ⟨_, hb2, rfl⟩
  simp only [List.forIn_cons,
        List.forIn_nil]
  refine wpAny_bind (wpAny_bind (wpAny_bind (wpAny_isInstance (T := "list") (b := false) ty PySem.F.sub_list_str ?_)))
  simp only [Bool.false_eq_true,
        if_false]
  refine wpAny_pure (wpAny_bind (wpAny_bind (wpAny_isInstance (T := "list") (b := false) ty PySem.F.sub_list_bytes ?_)))
  simp only [Bool.false_eq_true,
        if_false]
  refine wpAny_pure (wpAny_bind (wpAny_bind (wpAny_isInstance (T := "list") (b := false) ty PySem.F.sub_list_bytearray ?_)))
  simp only [Bool.false_eq_true,
        if_false]
  refine wpAny_pure
        (wpAny_pure ?_)
  refine wpAny_bind
        (wpAny_newObj_type ?_)
  have eS : (s.heap.push { cls := .type "list_iterator", data := .fields #[.ref l, .int 0 0] }).objs.size = s.heap.objs.size + 1 := Heap.size_push _ _
  have old : ∀ x o, s.heap.get? x = some o → ((s.heap.push { cls := .type "list_iterator", data := .fields #[.ref l, .int 0 0] }).push { cls := .type "list", data := .seq #[.ref b] }).get? x = some o := fun x o e => Heap.get?_push_of_some _ (Heap.get?_push_of_some _ e)
  have W := Walks.list (prog := prog) (w := w) (A := A.in1) (by exact hh) s.heap.objs.size l (Nat.ne_of_lt ll) items
  rw [eS]
  refine wpAny_pure ⟨_, rfl, plainId_quiet F.plain_sum_loop _, ?_⟩
  refine sum_turns W (S := s.heap.objs.size + 1) (fun z => ?_) (fun x z => ?_) B L (fun i v hv => ?_) (fun i hi => ?_) items.size 0 { s with heap := (s.heap.push { cls := .type "list_iterator", data := .fields #[.ref l, .int 0 0] }).push { cls := .type "list", data := .seq #[.ref b] } } b cur 0 cb (by rw [Nat.zero_add]) ⟨?_, hl.at fun o e => old _ _ e⟩ (fun j hj => ?_) ?_ (old _ _ hb) ?_ ?_ fit fun h' tk t' c' e1 e2 e3 => ⟨_, rfl, ?_⟩
  · rcases List.mem_cons.mp z with e | e
    · exact Nat.succ_ne_self _ e
    · have e2 := List.mem_singleton.mp e
      rw [← e2] at ll
      exact Nat.lt_irrefl _ (Nat.lt_of_succ_lt ll)
  · rw [List.mem_singleton.mp
        z]
    exact Nat.lt_succ_self _
  · have z : i < items.size := (Array.getElem?_eq_some_iff.mp hv).1
    exact Option.some.inj (hv.symm.trans (hB i z))
  · obtain ⟨c, e⟩ := hL i hi
    have z := Heap.lt_size e
    exact ⟨fun y => Nat.ne_of_lt z (List.mem_singleton.mp y), Nat.ne_of_lt (Nat.lt_succ_of_lt z)⟩
  · exact ⟨_, Heap.get?_push_of_some _ (Heap.get?_push_size _ rfl), rfl, rfl⟩
  · obtain ⟨c, e⟩ := hL j hj
    exact ⟨c, old _ _ e⟩
  · rw [← eS]
    exact
          Heap.get?_push_size _ rfl
  · exact Nat.ne_of_lt (Nat.lt_succ_of_lt lb)
  · exact fun y => Nat.ne_of_lt lb (List.mem_singleton.mp y)
  · refine h h' tk t' c' e1 (Nat.le_of_lt (Nat.lt_trans (Nat.lt_succ_self _) (e2 (.inr np)))) fun x o e => ?_
    have z := Heap.lt_size e
    exact e3 x o (fun y => Nat.ne_of_lt z (List.mem_singleton.mp y)) (Nat.ne_of_lt (Nat.lt_succ_of_lt z)) (old x o e)
end
theorem rest_vals {L : Nat → List Value} : ∀ (ps : List (Addr × List V)) (i : Nat), (∀ j p, ps[j]? = some p → Vals p.2 (L (i + j))) → Vals (ps.map (·.2)).flatten (restOf L i ps.length)
  | [], _, _ => .nil
  | p :: r, i, h => by
    show Vals (p.2 ++ (r.map (·.2)).flatten) (L i ++ restOf L (i + 1) r.length)
    refine Vals.append (h 0 p rfl) (rest_vals r (i + 1) fun j q e => ?_)
    have z := h (j + 1) q (by rw [List.getElem?_cons_succ]; exact e)
    rw [Nat.add_assoc, Nat.add_comm 1 j]
    exact z
section
variable {X : Cx}
/-- sum(lists, list): one list or more, each on its own -/
def rSumL : List V → Hp → VK → Prop := fun vs H Q => ∃ (a b : Addr) (ps : List (Addr × List V)) (zs : List V), vs = [V.ref a, V.ref b] ∧ H a = some (.lst (ps.map fun p => .ref p.1)) ∧ H b = some (.lst zs) ∧ 0 < ps.length ∧ (∀ p ∈ ps, H p.1 = some (.lst p.2)) ∧
  zs.length + ((ps.map (·.2)).flatten).length ≤ sizeLine ∧ ∀ p, H p = none → Q (.ref p) (upd H p (.lst (zs ++ (ps.map (·.2)).flatten)))
theorem cr_sumL (hc : X.calm = true) : CallR X (.builtin "sum") rSumL := by
  intro pins s σ
        H vs us Q I r h
  obtain ⟨a, b, ps, zs, rfl, ha, hb, np, hp, fit, q⟩ := h
  obtain ⟨u, us2, rfl, ru, r2⟩ : ∃ u us2, us = u :: us2 ∧ RelV (V.ref a) u ∧ Vals [V.ref b] us2 := by
    cases r with
    | cons x y => exact
          ⟨_, _, rfl, x, y⟩
  rw [Vals.ref1 r2]
  obtain rfl : u =
        Value.ref a := ru
  obtain ⟨_, ia, na, va, la, ea⟩ := I.lstM ha
  obtain ⟨_, ib, nb, vb, lb, eb⟩ := I.lstM hb
  have lps : ps.length = ia.length := by rw [← la, List.length_map]
  have ex : ∀ i, i < ps.length → ∃ (xs : List Value) (c : Nat) (p : Addr × List V), ps[i]? = some p ∧ Vals p.2 xs ∧ s.heap.get? p.1 = some (lsO xs c) := fun i hi => by
    obtain ⟨_, xs, c, v, _, e⟩ := I.lstM (hp ps[i] (List.getElem_mem hi))
    exact ⟨xs, c, ps[i], List.getElem?_eq_getElem hi, v, e⟩
  have sz : ia.toArray.size = ps.length := by rw [List.size_toArray, lps]
  have rv : Vals (ps.map (·.2)).flatten (restOf (fun i => if h : i < ps.length then (ex i h).choose else []) 0 ps.length) := by
    refine rest_vals ps 0 fun j p e => ?_
    have hj : j < ps.length := (List.getElem?_eq_some_iff.mp e).1
    rw [Nat.zero_add, dif_pos hj]
    obtain ⟨c, p2, e2, v2, _⟩ := (ex j hj).choose_spec
    obtain rfl : p2 = p := Option.some.inj (e2.symm.trans e)
    exact v2
  refine sum_lists (items := ia.toArray) (cur := ib) (cb := nb) (I.ok.hd hc) ⟨_, ea, rfl, _, rfl⟩ (fun i => if h : i < ps.length then ps[i].1 else 0) (fun i => if h : i < ps.length then (ex i h).choose else []) (fun i hi => ?_) (fun i hi => ?_) eb (by rw [sz]; exact np) ?_ fun h' tk t' c' e1 e2 e3 => ?_
  · rw [sz] at hi
    rw [dif_pos hi]
    have ev : (ps.map fun p => V.ref p.1)[i]? = some (V.ref ps[i].1) := by
      rw [List.getElem?_map, List.getElem?_eq_getElem hi]
      rfl
    obtain ⟨u, h1, h2⟩ := Vals.get va ev
    obtain rfl : u = Value.ref ps[i].1 := h2
    simpa using h1
  · rw [sz] at hi
    rw [dif_pos hi, dif_pos hi]
    obtain ⟨c, p2, e2, _, e3⟩ := (ex i hi).choose_spec
    obtain rfl : p2 = ps[i] := Option.some.inj (e2.symm.trans (List.getElem?_eq_getElem hi))
    exact ⟨c, e3⟩
  · rw [sz, ← rv.length, ← vb.length]
    exact fit
  · rw [sz] at e1
    have vv := vb.append rv
    exact ⟨.ref t', _, I.laid (t' := tk) (o := .lst (zs ++ (ps.map (·.2)).flatten)) e3 e2 ⟨by rw [List.length_append]; exact fit, _, c', vv, e1⟩, rfl, q t' (I.hok.fresh e2)⟩
end
end XT
end
section
set_option Elab.async false
set_option linter.all false
set_option maxRecDepth 100000
set_option maxHeartbeats 4100000
namespace XT
open PySem PySem.Spec PyProof.Rows L2 XS
/-! ### how many unlike signs a text has: len(set(text)) -/
/-- the texts of one sign that stand among the first i signs -/
def among (cs : List Nat) (i : Nat) : Str → Bool := fun z => (cs.take i).any fun c => sg c == z
theorem among_iff {cs : List Nat} {i c : Nat} : among cs i (sg c) = true ↔ c ∈ cs.take i := by
  unfold among
  rw [List.any_eq_true]
  refine ⟨fun ⟨d, h1, h2⟩ => ?_, fun h => ⟨c, h, by simp⟩⟩
  rw [beq_iff_eq] at h2
  exact sg_inj h2 ▸ h1
theorem among_succ {cs : List Nat} {i c : Nat} (h : cs[i]? = some c) (z : Str) : (among cs i z || decide (z = sg c)) = among cs (i + 1) z := by
  unfold among
  rw [List.take_succ, h]
  simp only [Option.toList, List.any_append, List.any_cons, List.any_nil, Bool.or_false]
  congr 1
  by_cases e : z = sg c
  · subst e
    simp
  · rw [decide_eq_false e]
    symm
    rw [beq_eq_false_iff_ne]
    exact fun y => e y.symm
section
variable {prog : Program} {w : World} {A : Around} {R : Result → Shared → Prop} {I S : Addr} {fp wr : List Addr} {St : Nat → Heap → Prop} {x : Str}
theorem set_turns (W : Walks prog w A.in1 I fp wr x.cps.size (SignAt x) St) (nS : S ∉ fp) (small : x.length < 4000) :
    ∀ (k i m : Nat) (s : Shared), x.cps.size = i + k → St i s.heap → s.heap.SetOf (PySem.strKind prog w) S (among (cod x) i) m → m ≤ i → (m = i ↔ ((cod x).take i).Nodup) →
      (∀ h' tk m', h'.SetOf (PySem.strKind prog w) S (among (cod x) x.cps.size) m' → m' ≤ x.cps.size → (m' = x.cps.size ↔ (cod x).Nodup) → (∀ y o, y ∉ wr → y ≠ S → s.heap.get? y = some o → h'.get? y = some o) → R (.ok (.ret .none)) { s with heap := h', toks := tk }) →
      codeAny (model prog w) A (.builtin
            "set.update.loop" ⟨[.ref S, .ref I], []⟩) R s := by
  have nW : S ∉ wr := fun h => nS (W.sub _ h)
  intro k
  induction k with
  | zero =>
    intro i m s e st hS le iff q
    obtain rfl : x.cps.size = i := e
    refine codeAny_builtin
          PyProof.Rows.F.entry_set_update_loop ?_
    rw [Around.under_plainId
          PyProof.Rows.F.plain_set_update_loop _]
    show wpAny _ _ (pyNext (.ref I) >>= _) _ _ s
    refine wpAny_bind (W.done s _ _ st fun h' tk keep => ?_)
    show wpAny _ _ (ret
          Value.none) _ _ _
    refine wpAny_pure (q h' tk m ?_ le ?_ fun y o h1 _ h3 => keep y o h1 h3)
    · obtain ⟨o, es, ep, t, ho, rest⟩ := hS
      exact ⟨o, es, ep, t, keep S _ nW ho, rest⟩
    · rw [iff, List.take_of_length_le (by rw [len_cod]; exact Nat.le_refl _)]
  | succ k ih =>
    intro i m s e st hS le iff q
    have lt : i < x.cps.size := by omega
    have lx : x.length = x.cps.size := rfl
    refine codeAny_builtin
          PyProof.Rows.F.entry_set_update_loop ?_
    rw [Around.under_plainId
          PyProof.Rows.F.plain_set_update_loop _]
    show wpAny _ _ (pyNext (.ref I) >>= _) _ _ s
    refine wpAny_bind (W.item i s _ _ lt st fun v h' tk hv st2 keep => ?_)
    obtain ⟨c, u, hc, rfl⟩ := hv
    have hc2 : (cod x)[i]? = some c := by
      show x.cps.toList[i]? = some c
      rw [Array.getElem?_toList]
      exact hc
    have hS2 : h'.SetOf (PySem.strKind prog w) S (among (cod x) i) m := by
      obtain ⟨o, es, ep,
            t, ho, rest⟩ := hS
      exact ⟨o, es, ep, t, keep S _ nW ho, rest⟩
    show wpAny _ _ (holding [Value.str (sg c) u] (setAdd S (.str (sg c) u)) >>= _) _ _ _
    refine wpAny_bind
          (wpAny_holding ?_)
    unfold setAdd
    refine wpAny_holding ?_
    refine wpAny_bind ((PySem.strKind prog w).pyHash (k := sg c) (strKind_is _ _ _ _) ?_)
    refine wpAny_setAddHashed_of (knd := PySem.strKind prog w) (s := { s with heap := h', toks := tk + 1 }) (strKind_is _ _ _ _) rfl hS2 (by unfold scanBound; omega) fun h2 sb hS3 => ?_
    have step : h2.SetOf (PySem.strKind prog w) S (among (cod x) (i + 1)) (if among (cod x) i (sg c) then m else m + 1) := SetOf_congr hS3 (fun z => among_succ hc2 z) rfl
    have tk1 : (cod x).take (i + 1) = (cod x).take i ++ [c] := by rw [List.take_succ, hc2]; rfl
    refine wpAny_pure ⟨plainId_quiet PyProof.Rows.F.plain_set_update_loop _, ih (i + 1) _ _ (by omega) (W.frame _ _ _ st2 fun y hy o ey => ?_) step ?_ ?_ fun h3 t3 m3 e1 e2 e3 e4 => ?_⟩
    · exact (sb.2 y fun h : y = S => nS (h ▸ hy)).trans ey
    · split <;> omega
    · rw [tk1, List.nodup_append]
      cases ha : among (cod x) i (sg c) with
      | true =>
        have mem := among_iff.mp ha
        rw [if_pos rfl]
        refine ⟨fun z => by omega, fun z => absurd rfl (z.2.2 c mem c (by simp))⟩
      | false =>
        have mem : ¬ c ∈ (cod x).take i := fun z => by rw [among_iff.mpr z] at ha; cases ha
        rw [if_neg (by decide)]
        refine ⟨fun z => ⟨iff.mp (by omega), by simp, fun y hy z2 hz => ?_⟩, fun z => by rw [iff.mpr z.1]⟩
        rw [List.mem_singleton] at hz
        subst hz
        exact fun z3 => mem (z3 ▸ hy)
    · exact q h3 t3 m3 e1 e2 e3 fun y o h1 h3 h4 => e4 y o h1 h3 ((sb.2 y h3).trans (keep y o h1 h4))
end
section
variable {prog : Program} {w : World} {A : Around} {E : Value → Shared → Prop} {s : Shared} {x : Str} {u : Tok} {Q : Value → Shared → Prop}
theorem set_text (hh : A.handled = none) (small : x.length < 4000)
    (h : ∀ (h' : Heap) (tk m : Nat), h'.SetOf (PySem.strKind prog w) s.heap.objs.size (among (cod x) x.cps.size) m → m ≤ x.cps.size → (m = x.cps.size ↔ (cod x).Nodup) → (∀ b o, s.heap.get? b = some o → h'.get? b = some o) → Q (.ref s.heap.objs.size) { s with heap := h', toks := tk }) :
    wpAny (model prog w) A (call (.type "set") [.str x u]) Q E s := by
  obtain ⟨c, tl, order⟩ := PySem.F.called_set.mro
  have made := PySem.F.called_set.made
  have below := PySem.F.called_set.sub
  refine wpAny_call
        (codeAny_of_tree ?_)
  show wpAny _ _ (callAny
        (.type "set") _) _ _ _
  refine wpAny_pure ⟨Code.quiet_builtin _ (by
        decide +kernel), codeAny_builtin PySem.F.entry_type_call ?_⟩
  rw [Around.under_plain (weight_type_call_type "set" [.str x u] []) rfl]
  have no1 := PySem.F.called_set.notType
  have can := PySem.F.called_set.canCreate
  have ct := PySem.F.typeCall_set_1 (.str x u)
  repeat (any_goals (first
        | assumption | wp_step))
  refine codeAny_mono (code_set_new_1 (.str x u) (E := E) (Q₁ := fun obj s₁ => ∃ led : Bool, obj = .ref s.heap.objs.size ∧ s₁ = { s with heap := s.heap.push { cls := .type "set", dict := none, data := .set #[] 0 (.fresh 0 0 led) } }) fun led => ⟨led, rfl, rfl⟩) fun r s₁ hr => ?_
  cases r with
  | error e => exact hr
  | ok fl =>
    cases fl with
    | ret obj =>
      obtain ⟨led, rfl, rfl⟩ := hr
      have hS : (s.heap.push { cls := .type "set", dict := none, data := .set #[] 0 (.fresh 0 0 led) }).get? s.heap.objs.size
            = some { cls := .type "set", dict := none, data := .set #[] 0 (.fresh 0 0 led) } := Heap.get?_push_size _ rfl
      have hT : Shared.TypeIs { s with heap := (s.heap.push { cls := .type "set", dict := none, data := .set #[] 0 (.fresh 0 0 led) }) } (.ref s.heap.objs.size) "set" := ⟨_, hS, rfl⟩
      have lookI := PySem.F.called_set.init.lookup
      have bindI := PySem.F.called_set.init.bind (.ref s.heap.objs.size)
      repeat (any_goals (first
            | assumption | wp_step))
      refine codeAny_mono (codeAny_call_builtin (R := wants (fun r s₂ => r = .none ∧ ∃ h' tk m, s₂ = { s with heap := h', toks := tk } ∧ h'.SetOf (PySem.strKind prog w) s.heap.objs.size (among (cod x) x.cps.size) m ∧ m ≤ x.cps.size ∧ (m = x.cps.size ↔ (cod x).Nodup) ∧
          (∀ b o, s.heap.get? b = some o → h'.get? b = some o)) E) PySem.F.called_set.init.plain PySem.F.entry_set_init (check_set_init_1 hT ?_)) fun r₂ s₂ hr₂ => ?_
      · have n1 := PySem.F.sub_str_set
        have n2 := PySem.F.sub_str_frozenset
        have n3 : (Value.type "str" == Value.type "dict") = false := by decide
        unfold Builtin.«set.__init__»
              noKeywords Builtin.Frozenset.updateFrom
        generalize hPI : pyIter = PI
        wp_walk
        subst hPI
        refine wpAny_pyIter_str fun o St W st => ?_
        refine wpAny_bind
              (wpAny_runValue ?_)
        have eS : (s.heap.push { cls := .type "set", dict := none, data := .set #[] 0 (.fresh 0 0 led) }).objs.size = s.heap.objs.size + 1 := Heap.size_push _ _
        have get : ((s.heap.push { cls := .type "set", dict := none, data := .set #[] 0 (.fresh 0 0 led) }).push o).get? s.heap.objs.size = some { cls := .type "set", dict := none, data := .set #[] 0 (.fresh 0 0 led) } := Heap.get?_push_of_some _ hS
        have start : ((s.heap.push { cls := .type "set", dict := none, data := .set #[] 0 (.fresh 0 0 led) }).push o).SetOf (PySem.strKind prog w) s.heap.objs.size (among (cod x) 0) 0 := SetOf_congr ((PyProof.Rows.setObjOf_fresh (knd := PySem.strKind prog w) led).setOf get (by unfold scanBound; omega)) (fun _ => rfl) rfl
        refine set_turns (W _ (by simp [hh])) (fun z => ?_) small x.cps.size 0 0 _ (by rw [Nat.zero_add]) st start (Nat.le_refl _) ⟨fun _ => by simp, fun _ => rfl⟩ fun h' tk m e1 e2 e3 e4 => ?_
        · have e := List.mem_singleton.mp z
          rw [eS] at e
          exact Nat.succ_ne_self _ e.symm
        · show wpAny _ _ _ _ _ _
          refine wpAny_pure ?_
          show wpAny _ _ (ret
                Value.none) _ _ _
          refine wpAny_pure ⟨rfl, h', tk, m, rfl, e1, e2, e3, fun b o2 e => ?_⟩
          have lt := Heap.lt_size e
          refine e4 b o2 (fun z => ?_) (Nat.ne_of_lt lt) (Heap.get?_push_of_some _ (Heap.get?_push_of_some _ e))
          have e5 := List.mem_singleton.mp z
          rw [eS] at e5
          rw [e5] at lt
          exact Nat.lt_irrefl _ (Nat.lt_of_succ_lt lt)
      · cases r₂ with
        | error e => exact hr₂
        | ok fl₂ =>
          cases fl₂ with
          | ret r =>
            obtain ⟨rfl, h', tk, m, rfl, e1, e2, e3, e4⟩ := hr₂
            repeat (any_goals (first
                  | assumption | wp_step))
            exact h _ _ _ e1 e2 e3 e4
          | _ => exact hr₂.elim
    | _ => exact hr.elim
end
section
variable {X : Cx}
/-- len(set(text)): as many as the text has signs exactly if no sign stands twice -/
def tLenSetX (ta : TE) : TE := fun σ H Q => ta σ H fun v H1 => ∃ z : Str, v = .str z ∧ z.length < 4000 ∧ ∀ m : Nat, (m = z.length ↔ (cod z).Nodup) → Q (.int (m : Int)) H1
theorem pe_lenSetX {a : Expr} {ta : TE} {p p2 q pos : Pos} (hc : X.calm = true) (hg : Gl X "len") (hm : X.mg "len" = none) (hg2 : Gl X "set") (hm2 : X.mg "set" = none) (ha : PE X a ta)
    (na : starEach [a] X.env = (false, eval a X.env) :: starEach [] X.env := by rfl) : PE X (.Call (.Name "len" p) [.Call (.Name "set" p2) [a] [] q] [] pos) (tLenSetX ta) := by
  refine ⟨fun pins s σ H Q I h => ?_⟩
  refine Call_ (ld_blt
        I hg hm boot_len ?_)
  refine PyProof.Rows.callWith_builtin1
        (PyProof.Rows.args_cons ?_ rfl) rfl rfl
  refine Call_ (ld_blt
        I hg2 hm2 boot_set ?_)
  refine PyProof.Rows.callWith_type1 (PyProof.Rows.args_cons (thn (ha.run pins s σ H _ I h) fun v s1 ⟨x, H1, I1, r1, z, e, small, q1⟩ => PyProof.Rows.args_nil ?_) na) na rfl
  subst e
  obtain ⟨t, rfl⟩ := r1
  refine set_text (I1.ok.hd hc) small fun h' tk m hS le iff keep => ?_
  refine
        PyProof.Rows.args_nil ?_
  obtain ⟨o, es, ep, t2, ho, hex, hd, _, _, _, hf, hn⟩ := hS
  have I2 : Inv X pins σ H1 { s1 with heap := h', toks := tk } := I1.kept keep
  have lz : z.length = z.cps.size := rfl
  refine call_len_set ho hex hd hf (by rw [hn]; omega) ⟨.int m, H1, I2.tok _, ⟨_, by rw [hn]⟩, q1 m iff⟩
end
end XT
end
section
set_option Elab.async false
set_option linter.all false
set_option maxRecDepth 100000
set_option maxHeartbeats 4100000
namespace LA
open PySem L2 XS XT
abbrev sLetter : Stmt := top 10
abbrev sLine : Stmt := top 11
abbrev sWord : Stmt := top 12
abbrev sShort : Stmt := top 13
abbrev sDiff : Stmt := top 14
/-- a branch that is never gone -/
theorem pss_never {X : Cx} {ss : List Stmt} : PSs X ss (fun _ _ _ => False) := ⟨fun _ _ _ _ _ _ h => h.elim⟩
/-- what the program's modules give -/
structure PkT (mg : Str → Option Value) (t1 t2 t3 t4 : Tok) : Prop where
  len : mg "len" = none
  set : mg "set" = none
  all : mg "all" = none
  ord : mg "ord" = none
  isM : mg "isinstance" = none
  str : mg "str" = none
  first : mg "FIRST_LETTER" = some (.int 32 t1)
  last : mg "LAST_LETTER" = some (.int 126 t2)
  per : mg "PERCENT_SIGN" = some (.int 37 t3)
  word : mg "MAX_WORD" = some (.int 8 t4)
def lineB (z : Str) : Bool := (cod z).all fun c => decide (Lt c)
section
variable {P : Program} {w : World} {K : PySem.W.Frag} {mg : Str → Option Value} {base : Heap} {t1 t2 t3 t4 : Tok}
structure CallOf (P : Program) (w : World) (K : PySem.W.Frag) (mg : Str → Option Value) (base : Heap) (k : Nat) (x : Str) (ps : List Str) (sp : Sp) (f : Addr) (fd : FuncData) : Prop where
  ok : FnOk P w K mg base CX0 k f fd ps sp
  m : mg x = some (.ref f)
  k : PySem.W.keepIn K (.ref f) = true
  b : Binds K fd ps []
/-- is_letter of a text of one sign -/
def spLetter : Sp := fun vs H Q _ => ∃ c, vs = [.str (sg c)] ∧ Q (.bl (decide (Lt c))) H
theorem scLe : FnScope ["character", "code"] ["character"] (defScope sLetter) := ⟨rfl, rfl, rfl, by decide +kernel, rfl, by decide +kernel, by decide +kernel⟩
theorem ok_letter {f : Addr} {fd : FuncData} (F : Fun K "is_letter" "is_letter" sLetter f fd) (T : PkT mg t1 t2 t3 t4) : FnOk P w K mg base CX0 1 f fd ["character"] spLetter := by
  refine F.ok scLe (fun vs H Q E h => ?_) (fun cdv A outer s H vs Q E hr h => ?_)
  · obtain ⟨c, rfl, _⟩ := h
    rfl
  · obtain ⟨c, rfl, q⟩ := h
    refine ⟨_, pss_cons (by exact (ps_set (i := 1) scLe.nd rfl (.inl rfl) (pe_callB call_ord (by rfl) T.ord (by decide +kernel) (pa_cons (pv 0) pa_nil)))) (
      pss_one (by exact (ps_ret (pe_and (pe_chain op_le op_le (pe_glob (v := .int 32) rfl T.first ⟨_, rfl⟩) (pv 1) (pe_glob (v := .int 126) rfl T.last ⟨_, rfl⟩)) (pe_one (pe_cmpR op_ne (pv 1) (pe_glob (v := .int 37) rfl T.per ⟨_, rfl⟩) (nomark _))))))), ?_⟩
    refine ⟨_, rfl, _, rfl, rfl, ?_⟩
    have e0 : (((sg c).cps.getD 0 0 : Nat) : Int) = (c : Int) := rfl
    rw [e0]
    refine ⟨_, rfl, _, _, rfl, rfl, _, rfl, ?_⟩
    by_cases h1 : (32 : Int) ≤ (c : Int)
    · rw [decide_eq_true h1]
      refine iteT ?_
      refine ⟨_, _, rfl, rfl, _, rfl, ?_⟩
      by_cases h2 : (c : Int) ≤ 126
      · rw [decide_eq_true h2]
        refine iteT ?_
        refine ⟨_, rfl, rfl, ?_⟩
        have e : (!decide (V.int (c : Int) = V.int 37)) = decide (Lt c) := by
          by_cases h3 : c = 37
          · subst h3
            decide
          · rw [decide_eq_false (fun z => h3 (by injection z; omega))]
            exact (decide_eq_true ⟨by omega, by omega, h3⟩).symm
        rw [e]
        exact q
      · rw [decide_eq_false h2]
        refine iteF ?_
        have e : decide (Lt c) = false := decide_eq_false (fun z => h2 (by have := z.2.1; omega))
        rw [e] at q
        exact q
    · rw [decide_eq_false h1]
      refine iteF ?_
      refine ⟨_, rfl, ?_⟩
      refine iteF ?_
      have e : decide (Lt c) = false := decide_eq_false (fun z => h1 (by have := z.1; omega))
      rw [e] at q
      exact q
/-- is_line of any value -/
def spLine (K : PySem.W.Frag) : Sp := fun vs H Q _ => ∃ x, vs = [x] ∧ ((∃ z : Str, x = .str z ∧ z.length < 1000000 ∧ ∀ H', Same H H' → Q (.bl (lineB z)) H') ∨
  ((∀ z, x ≠ .str z) ∧ (∃ t, TyX K H x t ∧ PySem.W.kitOne K t (.type "str") = some false) ∧ Q (.bl false) H))
theorem scLi : FnScope ["value", "character"] ["value"] (defScope sLine) := ⟨rfl, rfl, rfl, by decide +kernel, rfl, by decide +kernel, by decide +kernel⟩
theorem ok_line {f f1 : Addr} {fd fd1 : FuncData} (F : Fun K "is_line" "is_line" sLine f fd) (T : PkT mg t1 t2 t3 t4) (M : CallOf P w K mg base 1 "is_letter" ["character"] spLetter f1 fd1) : FnOk P w K mg base CX0 2 f fd ["value"] (spLine K) := by
  refine F.ok scLi (fun vs H Q E h => ?_) (fun cdv A outer s H vs Q E hr h => ?_)
  · obtain ⟨x, rfl, _⟩ := h
    rfl
  · obtain ⟨x, rfl, q⟩ := h
    refine ⟨_, pss_one (by exact (ps_ret (pe_and (pe_callB call_isi (by rfl) T.isM (by decide +kernel) (pa_cons (pv 0) (pa_cons (pe_bltn (v := .ty "str") (by rfl) T.str (by decide +kernel) rfl) pa_nil)))
      (pe_one (pe_callB (cr_all rfl) (by rfl) T.all (by decide +kernel) (pa_cons (pe_lc (own := [("character", 1)]) (g := gName 1) (tt := tYes) (te := tCall spLetter [] (fun _ _ _ => False) (tCons (tVar 1) tNil)) rfl scLi.nd (pi_str (pv 0))
        (blkOk_by (N := ["value", "character"]) (sc := defScope sLine) (by decide +kernel))
        (fun _ _ _ _ _ => by exact (pg_name (i := 1) scLi.nd rfl (Or.inl rfl)))
        (fun _ _ _ _ _ => by exact pts_nil)
        (fun _ _ _ _ _ => by exact (pe_call M.ok hr rfl M.m M.k M.b .nil pass0 (pa_cons (pv 1) pa_nil)))) pa_nil)))))), ?_⟩
    refine ⟨_, rfl, ?_⟩
    rcases q with ⟨z, rfl, small, q⟩ | ⟨nz, ⟨t, ty, ki⟩, q⟩
    · refine ⟨_, _, _, _, true, rfl, .ty _, .base (.str _), kit_ty (by decide +kernel), _, rfl, ?_⟩
      refine iteT ?_
      refine ⟨_, rfl, z, rfl, fun D nD => ?_⟩
      refine lc_it walk_str (fun i G => G D = some (.lst (((cod z).take i).map fun c => V.bl (decide (Lt c)))) ∧ Same H G) ⟨upd_same, same_upd nD⟩ (fun _ _ _ _ => True.intro) (fun i x G G' hi p y => ?_) (fun G p => ?_)
      · obtain ⟨pD, pS⟩ := p
        obtain ⟨rfl, c, hc, rfl⟩ := y
        have hc2 : (cod z)[i]? = some c := by
          show z.cps.toList[i]? = some c
          rw [Array.getElem?_toList]
          exact hc
        refine ⟨rfl, ?_⟩
        dsimp only [tYes]
        rw [if_pos rfl]
        refine ⟨_, rfl, c, rfl, _, pD, ?_, ?_, ?_⟩
        · rw [List.length_map, List.length_take]
          exact Nat.lt_of_le_of_lt (Nat.min_le_right _ _) (by rw [len_cod]; exact Nat.lt_trans small (by decide))
        · rw [List.take_succ, hc2, List.map_append]
          exact upd_same
        · intro b o e
          rw [upd_ne]
          · exact pS b o e
          · exact ne_of_none e nD
      · obtain ⟨pD, pS⟩ := p
        refine ⟨_, ((cod z).map fun c => decide (Lt c)), rfl, ?_, ?_⟩
        · have e : ((cod z).take z.cps.size) = cod z := List.take_of_length_le (by rw [len_cod]; exact Nat.le_refl _)
          rw [e] at pD
          rw [List.map_map]
          exact SqL.of pD
        · have e : ((cod z).map fun c => decide (Lt c)).all id = lineB z := by
            unfold lineB
            rw [List.all_map]
            rfl
          rw [e]
          exact q G pS
    · refine ⟨_, _, _, _, false, rfl, .ty _, ty, ki, _, rfl, ?_⟩
      exact iteF q
/-- a question on any value that asks a text for b, and says no of all else -/
def spAsk (K : PySem.W.Frag) (b : Str → Bool) : Sp := fun vs H Q _ => ∃ x, vs = [x] ∧ ((∃ z : Str, x = .str z ∧ z.length < 1000000 ∧ ∀ H', Same H H' → Q (.bl (b z)) H') ∨
  ((∀ z, x ≠ .str z) ∧ (∃ t, TyX K H x t ∧ PySem.W.kitOne K t (.type "str") = some false) ∧ Q (.bl false) H))
theorem ask_line {K : PySem.W.Frag} : spAsk K lineB = spLine K := rfl
def wordB (z : Str) : Bool := lineB z && decide (0 < z.length)
def shortB (z : Str) : Bool := wordB z && decide (z.length ≤ 8)
theorem str_empty (z : Str) : (!decide (V.str z = V.str "")) = decide (0 < z.length) := by
  by_cases h : z.length = 0
  · have e : z = "" := cod_ext (by
      have : (cod z).length = 0 := by rw [len_cod]; exact h
      rw [List.length_eq_zero_iff.mp this]
      rfl)
    subst e
    decide
  · have e : ¬ V.str z = V.str "" := fun y => h (by injection y with y; subst y; rfl)
    rw [decide_eq_false e, decide_eq_true (Nat.pos_of_ne_zero h)]
    rfl
theorem scWo : FnScope ["value"] ["value"] (defScope sWord) := ⟨rfl, rfl, rfl, by decide +kernel, rfl, by decide +kernel, by decide +kernel⟩
theorem ok_word {f f1 : Addr} {fd fd1 : FuncData} (F : Fun K "is_word" "is_word" sWord f fd) (M : CallOf P w K mg base 2 "is_line" ["value"] (spLine K) f1 fd1) : FnOk P w K mg base CX0 3 f fd ["value"] (spAsk K wordB) := by
  refine F.ok scWo (fun vs H Q E h => ?_) (fun cdv A outer s H vs Q E hr h => ?_)
  · obtain ⟨x, rfl, _⟩ := h
    rfl
  · obtain ⟨x, rfl, q⟩ := h
    refine ⟨_, pss_one (by exact (ps_ret (pe_and (pe_call M.ok hr rfl M.m M.k M.b .nil pass0 (pa_cons (pv 0) pa_nil)) (pe_one (pe_cmpR op_ne (pv 0) pe_str (nomark _)))))), ?_⟩
    rcases q with ⟨z, rfl, small, q⟩ | ⟨nz, ty, q⟩
    · refine ⟨_, rfl, _, rfl, .inl ⟨z, rfl, small, fun H' sm => ⟨_, rfl, ?_⟩⟩⟩
      cases hl : lineB z with
      | true =>
        refine iteT ⟨_, rfl, rfl, ?_⟩
        rw [str_empty]
        have e : wordB z = decide (0 < z.length) := by unfold wordB; rw [hl, Bool.true_and]
        rw [← e]
        exact q H' sm
      | false =>
        refine iteF ?_
        have e : wordB z = false := by unfold wordB; rw [hl, Bool.false_and]
        rw [← e]
        exact q H' sm
    · exact ⟨_, rfl, _, rfl, .inr ⟨nz, ty, _, rfl, iteF q⟩⟩
theorem scSh : FnScope ["value"] ["value"] (defScope sShort) := ⟨rfl, rfl, rfl, by decide +kernel, rfl, by decide +kernel, by decide +kernel⟩
theorem ok_short {f f1 : Addr} {fd fd1 : FuncData} (F : Fun K "is_short_word" "is_short_word" sShort f fd) (T : PkT mg t1 t2 t3 t4) (M : CallOf P w K mg base 3 "is_word" ["value"] (spAsk K wordB) f1 fd1) : FnOk P w K mg base CX0 4 f fd ["value"] (spAsk K shortB) := by
  refine F.ok scSh (fun vs H Q E h => ?_) (fun cdv A outer s H vs Q E hr h => ?_)
  · obtain ⟨x, rfl, _⟩ := h
    rfl
  · obtain ⟨x, rfl, q⟩ := h
    refine ⟨_, pss_one (by exact (ps_ret (pe_and (pe_call M.ok hr rfl M.m M.k M.b .nil pass0 (pa_cons (pv 0) pa_nil)) (pe_one (pe_cmpR op_le (pe_callB call_len_str (by rfl) T.len PySem.boot_len (pa_cons (pv 0) pa_nil)) (pe_glob (v := .int 8) rfl T.word ⟨_, rfl⟩) (nomark _)))))), ?_⟩
    rcases q with ⟨z, rfl, small, q⟩ | ⟨nz, ty, q⟩
    · refine ⟨_, rfl, _, rfl, .inl ⟨z, rfl, small, fun H' sm => ⟨_, rfl, ?_⟩⟩⟩
      cases hl : wordB z with
      | true =>
        refine iteT ⟨_, rfl, z, rfl, Nat.le_of_lt (Nat.lt_trans small (by decide)), _, _, rfl, rfl, ?_⟩
        have e : shortB z = decide ((z.length : Int) ≤ 8) := by
          unfold shortB
          rw [hl, Bool.true_and]
          by_cases h : z.length ≤ 8
          · rw [decide_eq_true h, decide_eq_true (by omega)]
          · rw [decide_eq_false h, decide_eq_false (by omega)]
        show Q (.bl (decide ((z.length : Int) ≤ 8))) H'
        rw [← e]
        exact q H' sm
      | false =>
        refine iteF ?_
        have e : shortB z = false := by unfold shortB; rw [hl, Bool.false_and]
        rw [← e]
        exact q H' sm
    · exact ⟨_, rfl, _, rfl, .inr ⟨nz, ty, _, rfl, iteF q⟩⟩
/-- are_different of a text -/
def spDiffT : Sp := fun vs H Q _ => ∃ z : Str, vs = [.str z] ∧ z.length < 4000 ∧ Q (.bl (decide (cod z).Nodup)) H
theorem scDi : FnScope ["line"] ["line"] (defScope sDiff) := ⟨rfl, rfl, rfl, by decide +kernel, rfl, by decide +kernel, by decide +kernel⟩
theorem ok_diff {f : Addr} {fd : FuncData} (F : Fun K "are_different" "are_different" sDiff f fd) (T : PkT mg t1 t2 t3 t4) : FnOk P w K mg base CX0 1 f fd ["line"] spDiffT := by
  refine F.ok scDi (fun vs H Q E h => ?_) (fun cdv A outer s H vs Q E hr h => ?_)
  · obtain ⟨z, rfl, _⟩ := h
    rfl
  · obtain ⟨z, rfl, small, q⟩ := h
    refine ⟨_, pss_one (by exact (ps_ret (pe_cmpR op_eq (pe_lenSetX rfl (by rfl) T.len (by rfl) T.set (pv 0)) (pe_callB call_len_str (by rfl) T.len PySem.boot_len (pa_cons (pv 0) pa_nil)) (nomark _)))), ?_⟩
    refine ⟨_, rfl, z, rfl, small, fun m iff => ⟨_, rfl, z, rfl, Nat.le_of_lt (Nat.lt_trans small (by decide)), rfl, ?_⟩⟩
    have e : decide (V.int (m : Int) = V.int (z.length : Int)) = decide (cod z).Nodup := by
      by_cases h : (cod z).Nodup
      · rw [decide_eq_true h, iff.mpr h]
        exact decide_eq_true rfl
      · rw [decide_eq_false h]
        exact decide_eq_false fun y => h (iff.mp (by injection y; omega))
    rw [e]
    exact q
end
end LA
end
section
set_option Elab.async false
set_option linter.all false
set_option maxRecDepth 100000
set_option maxHeartbeats 4100000
namespace LA
open PySem L2 XS XT XK
/-- the def at place j of the class at place i -/
def cb (i j : Nat) : Stmt := match top i with
  | .ClassDef (body := b) .. => b.getD j (.Pass ⟨0, 0, 0, 0⟩)
  | _ => .Pass ⟨0, 0, 0, 0⟩
/-- any value that the law draws -/
inductive AnyV (H : Hp) : V → Prop
  | non : AnyV H .non
  | bl (b : Bool) : AnyV H (.bl b)
  | int (i : Int) : AnyV H (.int i)
  | str (z : Str) : z.length < 4000 → AnyV H (.str z)
  | lst {a : Addr} {xs : List V} : H a = some (.lst xs) → AnyV H (.ref a)
  | tup {a : Addr} {xs : List V} : H a = some (.tup xs) → AnyV H (.ref a)
  | dct {a : Addr} {kvs : List (Key × V)} : H a = some (.dK kvs) → AnyV H (.ref a)
theorem AnyV.keep {H H' : Hp} (k : ∀ b o, H b = some o → (∃ xs, o = .lst xs) ∨ (∃ xs, o = .tup xs) ∨ (∃ kvs, o = .dK kvs) → H' b = some o) {x : V} (h : AnyV H x) : AnyV H' x := by
  cases h with
  | non => exact .non
  | bl b => exact .bl b
  | int i => exact .int i
  | str z e => exact .str z e
  | lst e => exact .lst (k _ _ e (.inl ⟨_, rfl⟩))
  | tup e => exact .tup (k _ _ e (.inr (.inl ⟨_, rfl⟩)))
  | dct e => exact .dct (k _ _ e (.inr (.inr ⟨_, rfl⟩)))
theorem AnyV.same {H H' : Hp} (s : Same H H') {x : V} (h : AnyV H x) : AnyV H' x := h.keep fun _ _ e _ => s _ _ e
/-- the names of its types, but str -/
def tyN : List String := ["NoneType", "bool", "int", "list", "tuple", "dict"]
theorem AnyV.kinds {K : PySem.W.Frag} {H : Hp} {x : V} (h : AnyV H x) : (∃ z, x = .str z ∧ z.length < 4000) ∨ ((∀ z, x ≠ .str z) ∧ ∃ n ∈ tyN, TyX K H x (.type n) ∧ PySem.W.kitOne K (.type n) (.type "str") = some false) := by
  cases h with
  | non => exact .inr ⟨fun z e => (by cases e), _, by decide, .base .non, kit_ty (by decide +kernel)⟩
  | bl b => exact .inr ⟨fun z e => (by cases e), _, by decide, .base (.bl b), kit_ty (by decide +kernel)⟩
  | int i => exact .inr ⟨fun z e => (by cases e), _, by decide, .base (.int i), kit_ty (by decide +kernel)⟩
  | str z e => exact .inl ⟨z, rfl, e⟩
  | lst a => exact .inr ⟨fun z e => (by cases e), _, by decide, .base (.lst a), kit_ty (by decide +kernel)⟩
  | tup a => exact .inr ⟨fun z e => (by cases e), _, by decide, .base (.tup a), kit_ty (by decide +kernel)⟩
  | dct a => exact .inr ⟨fun z e => (by cases e), _, by decide, .base (.dK a), kit_ty (by decide +kernel)⟩
theorem AnyV.cls {K : PySem.W.Frag} {H : Hp} {x : V} (h : AnyV H x) : ∃ n, (n = "str" ∨ n ∈ tyN) ∧ TyX K H x (.type n) := by
  rcases h.kinds (K := K) with ⟨z, rfl, _⟩ | ⟨_, n, m, ty, _⟩
  · exact ⟨_, .inl rfl, .base (.str z)⟩
  · exact ⟨n, .inr m, ty⟩
/-- what a question of texts says of a value -/
def okv (b : Str → Bool) : V → Bool
  | .str z => b z
  | _ => false
theorem okv_str {b : Str → Bool} {z : Str} : okv b (.str z) = b z := rfl
theorem okv_no {b : Str → Bool} {x : V} (h : ∀ z, x ≠ .str z) : okv b x = false := by
  cases x with
  | str z => exact absurd rfl (h z)
  | _ => rfl
section
variable {P : Program} {w : World} {K : PySem.W.Frag} {mg : Str → Option Value} {base : Heap} {t1 t2 t3 t4 : Tok}
/-- a question on any value -/
def spAny1 (K : PySem.W.Frag) (b : Str → Bool) : Sp := fun vs H Q _ => ∃ x, vs = [x] ∧ AnyV H x ∧ ∀ H', Same H H' → Q (.bl (okv b x)) H'
theorem ask_any {k : Nat} {f : Addr} {fd : FuncData} {ps : List Str} {b : Str → Bool} (F : FnOk P w K mg base CX0 k f fd ps (spAsk K b)) : FnOk P w K mg base CX0 k f fd ps (spAny1 K b) :=
  F.imp fun vs H Q E ⟨x, e, a, q⟩ => ⟨x, e, by
    rcases a.kinds (K := K) with ⟨z, rfl, hz⟩ | ⟨no, n, _, ty⟩
    · exact .inl ⟨z, rfl, by omega, q⟩
    · have q0 := q H (fun _ _ e => e)
      rw [okv_no no] at q0
      exact .inr ⟨no, ⟨_, ty⟩, q0⟩⟩
/-- the package's error, at D, is raised with the name of an argument -/
def Refuses (D : Addr) (H : Hp) (E : XK) (arg : Str) : Prop := ∀ (d : Addr) (H' : Hp), H d = none → Same H H' → H' d = some (.xd [("argument", .str arg)]) → E (.ref D) (some d) H'
theorem Refuses.later {D : Addr} {H H1 : Hp} {E : XK} {arg : Str} (s : Same H H1) (r : Refuses D H E arg) : Refuses D H1 E arg := fun d H' n s2 e => r d H' (by
  cases q : H d with
  | none => rfl
  | some o => exact absurd ((s _ _ q).symm.trans n) (by simp)) (s.trans s2) e
/-- the making of the error -/
def spXI : Sp := fun vs H Q _ => ∃ (a C : Addr) (v : V), vs = [.ref a, v] ∧ OexC K C ∧ PySem.W.findIn K (.ref C) "argument" = some none ∧ H a = some (exo a C none) ∧ ∀ dx, H dx = none → dx ≠ a → Q .non (upd (upd H dx (exd dx [("argument", v)])) a (exo a C (some dx)))
abbrev sXI : Stmt := cb 1 0
theorem scXI : FnScope ["self", "argument"] ["self", "argument"] (defScope sXI) := ⟨rfl, rfl, rfl, by decide +kernel, rfl, by decide +kernel, by decide +kernel⟩
theorem ok_XI {f : Addr} {fd : FuncData} (F : Fun K "__init__" "InvalidTest.__init__" sXI f fd) : FnOk P w K mg base CX0 1 f fd ["self", "argument"] (spXI (K := K)) := by
  refine F.ok scXI (fun vs H Q E h => ?_) (fun cdv A outer s H vs Q E hr h => ?_)
  · obtain ⟨a, C, v, rfl, _⟩ := h
    rfl
  · obtain ⟨a, C, v, rfl, T, no, ea, q⟩ := h
    refine ⟨_, pss_one (by exact (ps_ost (pv 0) (pv 1))), ?_⟩
    exact ⟨_, rfl, _, rfl, a, C, rfl, T, no, .inl ⟨ea, fun dx n ne => q dx n ne⟩⟩
/-- the error's class, as the raising defs see it -/
structure ErrAt (P : Program) (w : World) (K : PySem.W.Frag) (mg : Str → Option Value) (base : Heap) (D fI : Addr) (fd : FuncData) : Prop where
  T : OexC K D
  no : PySem.W.findIn K (.ref D) "argument" = some none
  i : PySem.W.findIn K (.ref D) "__init__" = some (some (.ref fI))
  ty : PySem.W.typeIn K (.ref fI) = some (.type "function")
  ok : FnOk P w K mg base CX0 1 fI fd ["self", "argument"] (spXI (K := K))
  b : Binds K fd ["self", "argument"] []
  m : mg "InvalidTest" = some (.ref D)
/-- what raise InvalidTest("..") asks -/
theorem rd_raise {D : Addr} {H : Hp} {E : XK} {arg : Str} (T : OexC K D) (no : PySem.W.findIn K (.ref D) "argument" = some none) (r : Refuses D H E arg) : ([V.str arg] : List V).length ≤ 1000 ∧ ∀ a, H a = none → spXI (K := K) (.ref a :: ([V.str arg] ++ [])) (upd H a (exo a D none))
    (fun v H2 => v = .non ∧ ∃ (d : Addr) (fs : List (Str × V)), H2 a = some (exo a D (some d)) ∧ H2 d = some (exd d fs) ∧ H d = none ∧ E (.ref D) (some d) (upd (del H2 a) d (.xd fs))) (fun _ _ _ => False) := by
  refine ⟨by show 1 ≤ 1000; decide, fun a na => ⟨a, D, .str arg, rfl, T, no, upd_same, fun dx nd ne => ⟨rfl, dx, _, upd_same, by rw [upd_ne ne, upd_same], ?_, ?_⟩⟩⟩
  · rw [upd_ne ne] at nd
    exact nd
  · have nd' : H dx = none := by
      rw [upd_ne ne] at nd
      exact nd
    refine r dx _ nd' (fun b o e => ?_) upd_same
    have hb : b ≠ dx := ne_of_none e nd'
    have ha : b ≠ a := ne_of_none e na
    rw [upd_ne hb, del_ne ha, upd_ne ha, upd_ne hb, upd_ne ha]
    exact e
/-- a def that may refuse, as it is called -/
structure CallX (P : Program) (w : World) (K : PySem.W.Frag) (mg : Str → Option Value) (base : Heap) (k : Nat) (x : Str) (ps : List Str) (sp : Sp) (f : Addr) (fd : FuncData) : Prop where
  ok : FnOk P w K mg base (L2.CX P w) k f fd ps sp
  m : mg x = some (.ref f)
  k : PySem.W.keepIn K (.ref f) = true
  b : Binds K fd ps []
abbrev sChkW : Stmt := top 34
abbrev sChkP : Stmt := top 35
/-- check_word -/
def spChkW (K : PySem.W.Frag) (D : Addr) : Sp := fun vs H Q E => ∃ x, vs = [x] ∧ AnyV H x ∧ (okv shortB x = true → ∀ H', Same H H' → Q .non H') ∧ (okv shortB x = false → Refuses D H E "word")
theorem scCw : FnScope ["word"] ["word"] (defScope sChkW) := ⟨rfl, rfl, rfl, by decide +kernel, rfl, by decide +kernel, by decide +kernel⟩
theorem ok_chkW {f f1 D fI : Addr} {fd fd1 fdI : FuncData} (F : Fun K "check_word" "check_word" sChkW f fd) (X : ErrAt P w K mg base D fI fdI) (M : CallOf P w K mg base 4 "is_short_word" ["value"] (spAny1 K shortB) f1 fd1) : FnOk P w K mg base (L2.CX P w) 5 f fd ["word"] (spChkW K D) := by
  refine F.okX scCw (fun vs H Q E h => ?_) (fun cdv A outer s H vs Q E hr h => ?_)
  · obtain ⟨x, rfl, _⟩ := h
    rfl
  · obtain ⟨x, rfl, a, q1, q2⟩ := h
    have hr2 : Room 2 _ := hr.mono (by decide)
    refine ⟨_, pss_one (by exact (ps_if (pt_not (pt_val (pe_call M.ok hr rfl M.m M.k M.b .nil pass0 (pa_cons (pv 0) pa_nil)))) (pss_one (ps_raise rfl (takes_of rfl rfl rfl rfl) (pmk_oex X.T X.i X.ty X.ok hr2 X.b .nil pass0 rfl X.m (pa_cons pe_str pa_nil)))) pss_nil)), ?_⟩
    refine ⟨_, rfl, x, rfl, a, fun H' sm => ⟨_, rfl, ?_⟩⟩
    cases e : okv shortB x with
    | true => exact iteF (q1 e H' sm)
    | false => exact iteT (rd_raise X.T X.no ((q2 e).later sm))
end
end LA
end
section
set_option Elab.async false
set_option linter.all false
set_option maxRecDepth 100000
set_option maxHeartbeats 4100000
namespace LA
open PySem L2 XS XT XK
/-- a class whose objects keep one value, under the name fld -/
structure C1 (K : PySem.W.Frag) (C : Addr) (fld : Str) : Prop where
  cls : Cls K C
  no : NoAttr K C fld
section
variable {P : Program} {w : World} {K : PySem.W.Frag} {mg : Str → Option Value} {base : Heap} {t1 t2 t3 t4 : Tok}
theorem But.same_put {a : Addr} {H H' : Hp} {o : HO} (s : Same H H') : But a H (upd H' a o) := fun b u e n => by
  rw [upd_ne n]
  exact s b u e
/-- the making of a simple test of any value: it is made, or refused -/
def spInitX (C : Addr) (fld : Str) (D : Addr) (b : Str → Bool) (arg : Str) : Sp := fun vs H Q E => ∃ (a dx : Addr) (x : V), vs = [.ref a, x] ∧ H a = some (.ins C dx []) ∧ AnyV H x ∧
  (okv b x = true → ∀ H', H' a = some (.ins C dx [(fld, x)]) → But a H H' → Q .non H') ∧ (okv b x = false → Refuses D H E arg)
abbrev sIHas : Stmt := cb 18 0
theorem scIHas : FnScope ["self", "word"] ["self", "word"] (defScope sIHas) := ⟨rfl, rfl, rfl, by decide +kernel, rfl, by decide +kernel, by decide +kernel⟩
theorem ok_IHas {f f1 C D : Addr} {fd fd1 : FuncData} (F : Fun K "__init__" "Has.__init__" sIHas f fd) (T : C1 K C "_word") (M : CallX P w K mg base 5 "check_word" ["word"] (spChkW K D) f1 fd1) :
    FnOk P w K mg base (L2.CX P w) 6 f fd ["self", "word"] (spInitX C "_word" D shortB "word") := by
  refine F.okX scIHas (fun vs H Q E h => ?_) (fun cdv A outer s H vs Q E hr h => ?_)
  · obtain ⟨a, dx, x, rfl, _⟩ := h
    rfl
  · obtain ⟨a, dx, x, rfl, ha, hx, q1, q2⟩ := h
    refine ⟨_, pss_cons (by exact (ps_expr (pe_call M.ok hr rfl M.m M.k M.b .nil (passes_call (takes_of rfl rfl rfl rfl) (fun _ _ _ _ h => h)) (pa_cons (pv 1) pa_nil)))) (pss_one (by exact (ps_fld (pv 0) (pv 1) rfl))), ?_⟩
    refine ⟨_, rfl, x, rfl, hx, fun e H' sm => ⟨_, rfl, _, rfl, a, C, dx, [], rfl, sm _ _ ha, T.cls, T.no, by decide, ?_⟩, q2⟩
    exact q1 e _ upd_same (But.same_put sm)
abbrev sIBegins : Stmt := cb 19 0
theorem scIBegins : FnScope ["self", "word"] ["self", "word"] (defScope sIBegins) := ⟨rfl, rfl, rfl, by decide +kernel, rfl, by decide +kernel, by decide +kernel⟩
theorem ok_IBegins {f f1 C D : Addr} {fd fd1 : FuncData} (F : Fun K "__init__" "Begins.__init__" sIBegins f fd) (T : C1 K C "_word") (M : CallX P w K mg base 5 "check_word" ["word"] (spChkW K D) f1 fd1) :
    FnOk P w K mg base (L2.CX P w) 6 f fd ["self", "word"] (spInitX C "_word" D shortB "word") := by
  refine F.okX scIBegins (fun vs H Q E h => ?_) (fun cdv A outer s H vs Q E hr h => ?_)
  · obtain ⟨a, dx, x, rfl, _⟩ := h
    rfl
  · obtain ⟨a, dx, x, rfl, ha, hx, q1, q2⟩ := h
    refine ⟨_, pss_cons (by exact (ps_expr (pe_call M.ok hr rfl M.m M.k M.b .nil (passes_call (takes_of rfl rfl rfl rfl) (fun _ _ _ _ h => h)) (pa_cons (pv 1) pa_nil)))) (pss_one (by exact (ps_fld (pv 0) (pv 1) rfl))), ?_⟩
    refine ⟨_, rfl, x, rfl, hx, fun e H' sm => ⟨_, rfl, _, rfl, a, C, dx, [], rfl, sm _ _ ha, T.cls, T.no, by decide, ?_⟩, q2⟩
    exact q1 e _ upd_same (But.same_put sm)
abbrev sIEnds : Stmt := cb 20 0
theorem scIEnds : FnScope ["self", "word"] ["self", "word"] (defScope sIEnds) := ⟨rfl, rfl, rfl, by decide +kernel, rfl, by decide +kernel, by decide +kernel⟩
theorem ok_IEnds {f f1 C D : Addr} {fd fd1 : FuncData} (F : Fun K "__init__" "Ends.__init__" sIEnds f fd) (T : C1 K C "_word") (M : CallX P w K mg base 5 "check_word" ["word"] (spChkW K D) f1 fd1) :
    FnOk P w K mg base (L2.CX P w) 6 f fd ["self", "word"] (spInitX C "_word" D shortB "word") := by
  refine F.okX scIEnds (fun vs H Q E h => ?_) (fun cdv A outer s H vs Q E hr h => ?_)
  · obtain ⟨a, dx, x, rfl, _⟩ := h
    rfl
  · obtain ⟨a, dx, x, rfl, ha, hx, q1, q2⟩ := h
    refine ⟨_, pss_cons (by exact (ps_expr (pe_call M.ok hr rfl M.m M.k M.b .nil (passes_call (takes_of rfl rfl rfl rfl) (fun _ _ _ _ h => h)) (pa_cons (pv 1) pa_nil)))) (pss_one (by exact (ps_fld (pv 0) (pv 1) rfl))), ?_⟩
    refine ⟨_, rfl, x, rfl, hx, fun e H' sm => ⟨_, rfl, _, rfl, a, C, dx, [], rfl, sm _ _ ha, T.cls, T.no, by decide, ?_⟩, q2⟩
    exact q1 e _ upd_same (But.same_put sm)
abbrev sIIs : Stmt := cb 21 0
def isB (z : Str) : Bool := lineB z && decide (z.length ≤ 20)
def onB (z : Str) : Bool := lineB z && decide (cod z).Nodup
theorem scIIs : FnScope ["self", "line"] ["self", "line"] (defScope sIIs) := ⟨rfl, rfl, rfl, by decide +kernel, rfl, by decide +kernel, by decide +kernel⟩
theorem ok_IIs {f f1 C D fI : Addr} {fd fd1 fdI : FuncData} {t5 : Tok} (F : Fun K "__init__" "Is.__init__" sIIs f fd) (T : C1 K C "_line") (L : PkT mg t1 t2 t3 t4) (mM : mg "MAX_LINE" = some (.int 20 t5)) (X : ErrAt P w K mg base D fI fdI) (M : CallOf P w K mg base 2 "is_line" ["value"] (spAny1 K lineB) f1 fd1) :
    FnOk P w K mg base (L2.CX P w) 6 f fd ["self", "line"] (spInitX C "_line" D isB "line") := by
  refine F.okX scIIs (fun vs H Q E h => ?_) (fun cdv A outer s H vs Q E hr h => ?_)
  · obtain ⟨a, dx, x, rfl, _⟩ := h
    rfl
  · obtain ⟨a, dx, x, rfl, ha, hx, q1, q2⟩ := h
    have hr2 : Room 2 _ := hr.mono (by decide)
    refine ⟨_, pss_cons (by exact (ps_if (PW.pt (pw_or (pt_not (pt_val (pe_call M.ok hr2 rfl M.m M.k M.b .nil pass0 (pa_cons (pv 1) pa_nil)))) (pw_or1 (pt_cmpR op_gt (pe_callB call_len_str (by rfl) L.len PySem.boot_len (pa_cons (pv 1) pa_nil)) (pe_glob (v := .int 20) rfl mM ⟨_, rfl⟩) (nomark _)))))
      (pss_one (ps_raise rfl (takes_of rfl rfl rfl rfl) (pmk_oex X.T X.i X.ty X.ok hr2 X.b .nil pass0 rfl X.m (pa_cons pe_str pa_nil)))) pss_nil)) (pss_one (by exact (ps_fld (pv 0) (pv 1) rfl))), ?_⟩
    refine ⟨_, rfl, x, rfl, hx, fun H' sm => ⟨_, rfl, ?_⟩⟩
    cases e : okv lineB x with
    | false =>
      have no : okv isB x = false := by
        cases x with
        | str z => show (lineB z && _) = false; rw [show lineB z = false from e]; rfl
        | _ => rfl
      exact iteT (rd_raise X.T X.no ((q2 no).later sm))
    | true =>
      obtain ⟨z, rfl⟩ : ∃ z, x = .str z := by
        cases x with
        | str z => exact ⟨z, rfl⟩
        | _ => cases e
      have lz : z.length < 4000 := by
        cases hx with
        | str _ h => exact h
      have lb : lineB z = true := e
      refine iteF ⟨_, rfl, z, rfl, Nat.le_trans (Nat.le_of_lt lz) (by decide), _, _, rfl, rfl, _, rfl, ?_⟩
      by_cases h20 : z.length ≤ 20
      · rw [decide_eq_false
              (by omega)]
        refine iteF ⟨_, rfl, _, rfl, a, C, dx, [], rfl, sm _ _ ha, T.cls, T.no, by decide, ?_⟩
        exact q1 (by show (lineB z && decide (z.length ≤ 20)) = true; rw [lb, decide_eq_true h20]; rfl) _ upd_same (But.same_put sm)
      · rw [decide_eq_true
              (by omega)]
        exact iteT (rd_raise X.T X.no ((q2 (by show (lineB z && decide (z.length ≤ 20)) = false; rw [decide_eq_false h20, Bool.and_false])).later sm))
abbrev sIOn : Stmt := cb 22 0
theorem scIOn : FnScope ["self", "letters"] ["self", "letters"] (defScope sIOn) := ⟨rfl, rfl, rfl, by decide +kernel, rfl, by decide +kernel, by decide +kernel⟩
theorem ok_IOn {f f1 f2 C D fI : Addr} {fd fd1 fd2 fdI : FuncData} (F : Fun K "__init__" "Only.__init__" sIOn f fd) (T : C1 K C "_letters") (X : ErrAt P w K mg base D fI fdI) (M : CallOf P w K mg base 2 "is_line" ["value"] (spAny1 K lineB) f1 fd1) (N : CallOf P w K mg base 1 "are_different" ["line"] spDiffT f2 fd2) :
    FnOk P w K mg base (L2.CX P w) 6 f fd ["self", "letters"] (spInitX C "_letters" D onB "letters") := by
  refine F.okX scIOn (fun vs H Q E h => ?_) (fun cdv A outer s H vs Q E hr h => ?_)
  · obtain ⟨a, dx, x, rfl, _⟩ := h
    rfl
  · obtain ⟨a, dx, x, rfl, ha, hx, q1, q2⟩ := h
    have hr2 : Room 2 _ := hr.mono (by decide)
    have hr1 : Room 1 _ := hr.mono (by decide)
    refine ⟨_, pss_cons (by exact (ps_if (PW.pt (pw_or (pt_not (pt_val (pe_call M.ok hr2 rfl M.m M.k M.b .nil pass0 (pa_cons (pv 1) pa_nil)))) (pw_or1 (pt_not (pt_val (pe_call N.ok hr1 rfl N.m N.k N.b .nil pass0 (pa_cons (pv 1) pa_nil)))))))
      (pss_one (ps_raise rfl (takes_of rfl rfl rfl rfl) (pmk_oex X.T X.i X.ty X.ok hr2 X.b .nil pass0 rfl X.m (pa_cons pe_str pa_nil)))) pss_nil)) (pss_one (by exact (ps_fld (pv 0) (pv 1) rfl))), ?_⟩
    refine ⟨_, rfl, x, rfl, hx, fun H' sm => ⟨_, rfl, ?_⟩⟩
    cases e : okv lineB x with
    | false =>
      have no : okv onB x = false := by
        cases x with
        | str z => show (lineB z && _) = false; rw [show lineB z = false from e]; rfl
        | _ => rfl
      exact iteT (rd_raise X.T X.no ((q2 no).later sm))
    | true =>
      obtain ⟨z, rfl⟩ : ∃ z, x = .str z := by
        cases x with
        | str z => exact ⟨z, rfl⟩
        | _ => cases e
      have lz : z.length < 4000 := by
        cases hx with
        | str _ h => exact h
      have lb : lineB z = true := e
      refine iteF ⟨_, rfl, z, rfl, lz, _, rfl, ?_⟩
      cases nd : decide (cod z).Nodup with
      | true =>
        refine iteF ⟨_, rfl, _, rfl, a, C, dx, [], rfl, sm _ _ ha, T.cls, T.no, by decide, ?_⟩
        exact q1 (by show (lineB z && decide (cod z).Nodup) = true; rw [lb, nd]; rfl) _ upd_same (But.same_put sm)
      | false => exact iteT (rd_raise X.T X.no ((q2 (by show (lineB z && decide (cod z).Nodup) = false; rw [nd, Bool.and_false])).later sm))
end
end LA
end
section
set_option Elab.async false
set_option linter.all false
set_option maxRecDepth 100000
set_option maxHeartbeats 4100000
namespace LA
open PySem L2 XS XT XK
/-- a plain test: a simple one of a sort, one that fails, one of two -/
inductive G where
  | leaf (s : Nat) (z : Str)
  | fails (g : G)
  | pair (s : Nat) (a b : G)
theorem look1 {f : Str} {v : V} : ([(f, v)] : List (Str × V)).lookup f = some v := by
  simp
def fldL : Nat → Str
  | 3 => "_line"
  | 4 => "_letters"
  | _ => "_word"
def G.dep : G → Nat
  | .leaf _ _ => 1
  | .fails g => 1 + g.dep
  | .pair _ a b => 1 + max a.dep b.dep
def G.lv : G → Nat
  | .leaf _ _ => 1
  | .fails g => g.lv
  | .pair _ a b => a.lv + b.lv
def G.kids : G → List G
  | .leaf _ _ => []
  | .fails g => [g]
  | .pair _ a b => [a, b]
/-- the program's object of a plain test -/
def TA (C : Nat → Addr) (H : Hp) : G → V → Prop
  | .leaf s z, v => s < 5 ∧ ∃ a dx, v = .ref a ∧ H a = some (.ins (C s) dx [(fldL s, .str z)])
  | .fails g, v => ∃ a dx u, v = .ref a ∧ H a = some (.ins (C 5) dx [("_test", u)]) ∧ TA C H g u
  | .pair s x y, v => s < 2 ∧ ∃ a dx u1 u2, v = .ref a ∧ H a = some (.ins (C (6 + s)) dx [("_one", u1), ("_other", u2)]) ∧ TA C H x u1 ∧ TA C H y u2
theorem TA.keep {C : Nat → Addr} {H H' : Hp} (k : ∀ a D dx fs, H a = some (.ins D dx fs) → H' a = some (.ins D dx fs)) : ∀ {g : G} {v : V}, TA C H g v → TA C H' g v
  | .leaf s z, v, ⟨h, a, dx, e, ha⟩ => ⟨h, a, dx, e, k _ _ _ _ ha⟩
  | .fails g, v, ⟨a, dx, u, e, ha, hu⟩ => ⟨a, dx, u, e, k _ _ _ _ ha, TA.keep k hu⟩
  | .pair s x y, v, ⟨h, a, dx, u1, u2, e, ha, h1, h2⟩ => ⟨h, a, dx, u1, u2, e, k _ _ _ _ ha, TA.keep k h1, TA.keep k h2⟩
theorem TA.same {C : Nat → Addr} {H H' : Hp} (s : Same H H') {g : G} {v : V} (h : TA C H g v) : TA C H' g v := h.keep fun a D dx fs e => s _ _ e
theorem TA.but {C : Nat → Addr} {H H' : Hp} {d : Addr} {kvs : List (Key × V)} (b : But d H H') (hd : H d = some (.dK kvs)) {g : G} {v : V} (h : TA C H g v) : TA C H' g v :=
  h.keep fun a D dx fs e => b _ _ e (ne_of e hd (by intro z; cases z))
/-- the class of a plain test's object -/
def G.cls : G → Nat
  | .leaf s _ => s
  | .fails _ => 5
  | .pair s _ _ => 6 + s
theorem TA.at_ {C : Nat → Addr} {H : Hp} : ∀ {g : G} {v : V}, TA C H g v → g.cls < 8 ∧ ∃ a dx fs, v = .ref a ∧ H a = some (.ins (C g.cls) dx fs)
  | .leaf s z, v, ⟨h, a, dx, e, ha⟩ => ⟨by show s < 8; omega, a, dx, _, e, ha⟩
  | .fails g, v, ⟨a, dx, u, e, ha, hu⟩ => ⟨by show 5 < 8; omega, a, dx, _, e, ha⟩
  | .pair s x y, v, ⟨h, a, dx, u1, u2, e, ha, h1, h2⟩ => ⟨by show 6 + s < 8; omega, a, dx, _, e, ha⟩
theorem G.dep_pos : ∀ g : G, 1 ≤ g.dep
  | .leaf _ _ => Nat.le_refl 1
  | .fails g => by show 1 ≤ 1 + g.dep; omega
  | .pair _ a b => by show 1 ≤ 1 + max a.dep b.dep; omega
/-- the eight classes -/
structure KC (K : PySem.W.Frag) (C : Nat → Addr) : Prop where
  cls : ∀ i, i < 8 → Cls K (C i)
  cl : ∀ i, i < 8 → PySem.W.findIn K (.ref (C i)) "__class__" = some (some (.builtin "object.__class__"))
  get : PySem.W.specialIn K (.builtin "object.__class__") "__get__" = some (some (.builtin "getset_descriptor.__get__"))
  tak : PySem.W.takesIn K (.builtin "object.__class__") = some true
  obj : ∀ i, i < 8 → PySem.W.mroIn K (C i) (.type "object") = some true
  kit : ∀ i j, i < 8 → j < 8 → PySem.W.kitOne K (.ref (C i)) (.ref (C j)) = some (decide (i = j))
theorem TA.ty {K : PySem.W.Frag} {C : Nat → Addr} {H : Hp} (k : KC K C) {g : G} {v : V} (h : TA C H g v) : TyX K H v (.ref (C g.cls)) := by
  obtain ⟨lt, a, dx, fs, rfl, ha⟩ := h.at_
  exact .base (.ins ha (k.cls _ lt) (k.cl _ lt) k.get k.tak (k.obj _ lt))
section
variable {P : Program} {w : World} {K : PySem.W.Frag} {mg : Str → Option Value} {base : Heap} {C : Nat → Addr}
/-- a property that hands a kept value out -/
def spGet (D : Addr) (fld : Str) : Sp := fun vs H Q _ => ∃ (a dx : Addr) (fs : List (Str × V)) (v : V), vs = [.ref a] ∧ H a = some (.ins D dx fs) ∧ fs.lookup fld = some v ∧ Q v H
abbrev sGFtest : Stmt := cb 23 1
theorem scGFtest : FnScope ["self"] ["self"] (defScope sGFtest) := ⟨rfl, rfl, rfl, by decide +kernel, rfl, by decide +kernel, by decide +kernel⟩
theorem ok_GFtest {f D : Addr} {fd : FuncData} (F : Fun K "test" "Fails.test" sGFtest f fd) (c : Cls K D) (no : NoAttr K D "_test") : FnOk P w K mg base CX0 1 f fd ["self"] (spGet D "_test") := by
  refine F.ok scGFtest (fun vs H Q E h => ?_) (fun cdv A outer s H vs Q E hr h => ?_)
  · obtain ⟨a, dx, fs, v, rfl, _⟩ := h
    rfl
  · obtain ⟨a, dx, fs, v, rfl, ha, lk, q⟩ := h
    refine ⟨_, pss_one (by exact (ps_ret (pe_fld (pv 0) rfl))), ?_⟩
    exact ⟨_, rfl, a, D, dx, fs, v, rfl, ha, c, no, lk, q⟩
abbrev sGBone : Stmt := cb 24 1
theorem scGBone : FnScope ["self"] ["self"] (defScope sGBone) := ⟨rfl, rfl, rfl, by decide +kernel, rfl, by decide +kernel, by decide +kernel⟩
theorem ok_GBone {f D : Addr} {fd : FuncData} (F : Fun K "one" "Both.one" sGBone f fd) (c : Cls K D) (no : NoAttr K D "_one") : FnOk P w K mg base CX0 1 f fd ["self"] (spGet D "_one") := by
  refine F.ok scGBone (fun vs H Q E h => ?_) (fun cdv A outer s H vs Q E hr h => ?_)
  · obtain ⟨a, dx, fs, v, rfl, _⟩ := h
    rfl
  · obtain ⟨a, dx, fs, v, rfl, ha, lk, q⟩ := h
    refine ⟨_, pss_one (by exact (ps_ret (pe_fld (pv 0) rfl))), ?_⟩
    exact ⟨_, rfl, a, D, dx, fs, v, rfl, ha, c, no, lk, q⟩
abbrev sGBother : Stmt := cb 24 2
theorem scGBother : FnScope ["self"] ["self"] (defScope sGBother) := ⟨rfl, rfl, rfl, by decide +kernel, rfl, by decide +kernel, by decide +kernel⟩
theorem ok_GBother {f D : Addr} {fd : FuncData} (F : Fun K "other" "Both.other" sGBother f fd) (c : Cls K D) (no : NoAttr K D "_other") : FnOk P w K mg base CX0 1 f fd ["self"] (spGet D "_other") := by
  refine F.ok scGBother (fun vs H Q E h => ?_) (fun cdv A outer s H vs Q E hr h => ?_)
  · obtain ⟨a, dx, fs, v, rfl, _⟩ := h
    rfl
  · obtain ⟨a, dx, fs, v, rfl, ha, lk, q⟩ := h
    refine ⟨_, pss_one (by exact (ps_ret (pe_fld (pv 0) rfl))), ?_⟩
    exact ⟨_, rfl, a, D, dx, fs, v, rfl, ha, c, no, lk, q⟩
abbrev sGEone : Stmt := cb 25 1
theorem scGEone : FnScope ["self"] ["self"] (defScope sGEone) := ⟨rfl, rfl, rfl, by decide +kernel, rfl, by decide +kernel, by decide +kernel⟩
theorem ok_GEone {f D : Addr} {fd : FuncData} (F : Fun K "one" "Either.one" sGEone f fd) (c : Cls K D) (no : NoAttr K D "_one") : FnOk P w K mg base CX0 1 f fd ["self"] (spGet D "_one") := by
  refine F.ok scGEone (fun vs H Q E h => ?_) (fun cdv A outer s H vs Q E hr h => ?_)
  · obtain ⟨a, dx, fs, v, rfl, _⟩ := h
    rfl
  · obtain ⟨a, dx, fs, v, rfl, ha, lk, q⟩ := h
    refine ⟨_, pss_one (by exact (ps_ret (pe_fld (pv 0) rfl))), ?_⟩
    exact ⟨_, rfl, a, D, dx, fs, v, rfl, ha, c, no, lk, q⟩
abbrev sGEother : Stmt := cb 25 2
theorem scGEother : FnScope ["self"] ["self"] (defScope sGEother) := ⟨rfl, rfl, rfl, by decide +kernel, rfl, by decide +kernel, by decide +kernel⟩
theorem ok_GEother {f D : Addr} {fd : FuncData} (F : Fun K "other" "Either.other" sGEother f fd) (c : Cls K D) (no : NoAttr K D "_other") : FnOk P w K mg base CX0 1 f fd ["self"] (spGet D "_other") := by
  refine F.ok scGEother (fun vs H Q E h => ?_) (fun cdv A outer s H vs Q E hr h => ?_)
  · obtain ⟨a, dx, fs, v, rfl, _⟩ := h
    rfl
  · obtain ⟨a, dx, fs, v, rfl, ha, lk, q⟩ := h
    refine ⟨_, pss_one (by exact (ps_ret (pe_fld (pv 0) rfl))), ?_⟩
    exact ⟨_, rfl, a, D, dx, fs, v, rfl, ha, c, no, lk, q⟩
abbrev sGHWord : Stmt := cb 18 1
theorem scGHWord : FnScope ["self"] ["self"] (defScope sGHWord) := ⟨rfl, rfl, rfl, by decide +kernel, rfl, by decide +kernel, by decide +kernel⟩
theorem ok_GHWord {f D : Addr} {fd : FuncData} (F : Fun K "word" "Has.word" sGHWord f fd) (c : Cls K D) (no : NoAttr K D "_word") : FnOk P w K mg base CX0 1 f fd ["self"] (spGet D "_word") := by
  refine F.ok scGHWord (fun vs H Q E h => ?_) (fun cdv A outer s H vs Q E hr h => ?_)
  · obtain ⟨a, dx, fs, v, rfl, _⟩ := h
    rfl
  · obtain ⟨a, dx, fs, v, rfl, ha, lk, q⟩ := h
    refine ⟨_, pss_one (by exact (ps_ret (pe_fld (pv 0) rfl))), ?_⟩
    exact ⟨_, rfl, a, D, dx, fs, v, rfl, ha, c, no, lk, q⟩
abbrev sGBWord : Stmt := cb 19 1
theorem scGBWord : FnScope ["self"] ["self"] (defScope sGBWord) := ⟨rfl, rfl, rfl, by decide +kernel, rfl, by decide +kernel, by decide +kernel⟩
theorem ok_GBWord {f D : Addr} {fd : FuncData} (F : Fun K "word" "Begins.word" sGBWord f fd) (c : Cls K D) (no : NoAttr K D "_word") : FnOk P w K mg base CX0 1 f fd ["self"] (spGet D "_word") := by
  refine F.ok scGBWord (fun vs H Q E h => ?_) (fun cdv A outer s H vs Q E hr h => ?_)
  · obtain ⟨a, dx, fs, v, rfl, _⟩ := h
    rfl
  · obtain ⟨a, dx, fs, v, rfl, ha, lk, q⟩ := h
    refine ⟨_, pss_one (by exact (ps_ret (pe_fld (pv 0) rfl))), ?_⟩
    exact ⟨_, rfl, a, D, dx, fs, v, rfl, ha, c, no, lk, q⟩
abbrev sGEWord : Stmt := cb 20 1
theorem scGEWord : FnScope ["self"] ["self"] (defScope sGEWord) := ⟨rfl, rfl, rfl, by decide +kernel, rfl, by decide +kernel, by decide +kernel⟩
theorem ok_GEWord {f D : Addr} {fd : FuncData} (F : Fun K "word" "Ends.word" sGEWord f fd) (c : Cls K D) (no : NoAttr K D "_word") : FnOk P w K mg base CX0 1 f fd ["self"] (spGet D "_word") := by
  refine F.ok scGEWord (fun vs H Q E h => ?_) (fun cdv A outer s H vs Q E hr h => ?_)
  · obtain ⟨a, dx, fs, v, rfl, _⟩ := h
    rfl
  · obtain ⟨a, dx, fs, v, rfl, ha, lk, q⟩ := h
    refine ⟨_, pss_one (by exact (ps_ret (pe_fld (pv 0) rfl))), ?_⟩
    exact ⟨_, rfl, a, D, dx, fs, v, rfl, ha, c, no, lk, q⟩
abbrev sGILine : Stmt := cb 21 1
theorem scGILine : FnScope ["self"] ["self"] (defScope sGILine) := ⟨rfl, rfl, rfl, by decide +kernel, rfl, by decide +kernel, by decide +kernel⟩
theorem ok_GILine {f D : Addr} {fd : FuncData} (F : Fun K "line" "Is.line" sGILine f fd) (c : Cls K D) (no : NoAttr K D "_line") : FnOk P w K mg base CX0 1 f fd ["self"] (spGet D "_line") := by
  refine F.ok scGILine (fun vs H Q E h => ?_) (fun cdv A outer s H vs Q E hr h => ?_)
  · obtain ⟨a, dx, fs, v, rfl, _⟩ := h
    rfl
  · obtain ⟨a, dx, fs, v, rfl, ha, lk, q⟩ := h
    refine ⟨_, pss_one (by exact (ps_ret (pe_fld (pv 0) rfl))), ?_⟩
    exact ⟨_, rfl, a, D, dx, fs, v, rfl, ha, c, no, lk, q⟩
abbrev sGOLet : Stmt := cb 22 1
theorem scGOLet : FnScope ["self"] ["self"] (defScope sGOLet) := ⟨rfl, rfl, rfl, by decide +kernel, rfl, by decide +kernel, by decide +kernel⟩
theorem ok_GOLet {f D : Addr} {fd : FuncData} (F : Fun K "letters" "Only.letters" sGOLet f fd) (c : Cls K D) (no : NoAttr K D "_letters") : FnOk P w K mg base CX0 1 f fd ["self"] (spGet D "_letters") := by
  refine F.ok scGOLet (fun vs H Q E h => ?_) (fun cdv A outer s H vs Q E hr h => ?_)
  · obtain ⟨a, dx, fs, v, rfl, _⟩ := h
    rfl
  · obtain ⟨a, dx, fs, v, rfl, ha, lk, q⟩ := h
    refine ⟨_, pss_one (by exact (ps_ret (pe_fld (pv 0) rfl))), ?_⟩
    exact ⟨_, rfl, a, D, dx, fs, v, rfl, ha, c, no, lk, q⟩
structure PropAt (P : Program) (w : World) (K : PySem.W.Frag) (mg : Str → Option Value) (base : Heap) (D : Addr) (nm fld : Str) (p g : Addr) (fd : FuncData) : Prop where
  prop : PropOf K D nm p g
  ok : FnOk P w K mg base CX0 1 g fd ["self"] (spGet D fld)
  b : Binds K fd ["self"] []
theorem pe_or2 {X : Cx} {e : Expr} {t u : TE} (h1 : PE X e t) (h2 : PE X e u) : PE X e (fun σ H Q => t σ H Q ∨ u σ H Q) :=
  ⟨fun pins s σ H Q I h => h.elim (h1.run pins s σ H Q I) (h2.run pins s σ H Q I)⟩
abbrev sParts : Stmt := top 27
/-- what stands right within a test, in a new tuple -/
def spParts (C : Nat → Addr) : Sp := fun vs H Q _ => ∃ (g : G) (v : V), vs = [v] ∧ TA C H g v ∧ ∀ (p : Addr) (us : List V) (H' : Hp), H' p = some (.tup us) → Paired (fun g u => TA C H' g u) g.kids us → Same H H' → Q (.ref p) H'
theorem scPa : FnScope ["test"] ["test"] (defScope sParts) := ⟨rfl, rfl, rfl, by decide +kernel, rfl, by decide +kernel, by decide +kernel⟩
structure GetT (P : Program) (w : World) (K : PySem.W.Frag) (mg : Str → Option Value) (base : Heap) (C p g : Nat → Addr) (fd : Nat → FuncData) : Prop where
  t : PropAt P w K mg base (C 5) "test" "_test" (p 0) (g 0) (fd 0)
  b1 : PropAt P w K mg base (C 6) "one" "_one" (p 1) (g 1) (fd 1)
  b2 : PropAt P w K mg base (C 6) "other" "_other" (p 2) (g 2) (fd 2)
  e1 : PropAt P w K mg base (C 7) "one" "_one" (p 3) (g 3) (fd 3)
  e2 : PropAt P w K mg base (C 7) "other" "_other" (p 4) (g 4) (fd 4)
structure NamT (mg : Str → Option Value) (C : Nat → Addr) : Prop where
  isM : mg "isinstance" = none
  n0 : mg "Has" = some (.ref (C 0))
  n1 : mg "Begins" = some (.ref (C 1))
  n2 : mg "Ends" = some (.ref (C 2))
  n3 : mg "Is" = some (.ref (C 3))
  n4 : mg "Only" = some (.ref (C 4))
  n5 : mg "Fails" = some (.ref (C 5))
  n6 : mg "Both" = some (.ref (C 6))
  n7 : mg "Either" = some (.ref (C 7))
theorem kit2 {i j k : Nat} (k0 : KC K C) (hi : i < 8) (hj : j < 8) (hk : k < 8) : PySem.W.kitAny K (.ref (C i)) [.ref (C j), .ref (C k)] = some (decide (i = j ∨ i = k)) := by
  refine kitAny_cons (k0.kit i j hi hj) (fun h => ?_) (fun h => ?_)
  · have n1 := of_decide_eq_false h
    refine kitAny_cons (k0.kit i k hi hk) (fun h2 => ?_) (fun h2 => ?_)
    · have n2 := of_decide_eq_false h2
      rw [kitAny_nil, decide_eq_false (by omega)]
    · have y := of_decide_eq_true h2
      exact decide_eq_true (.inr y)
  · exact decide_eq_true (.inl (of_decide_eq_true h))
theorem ok_parts {f : Addr} {fd : FuncData} {p g : Nat → Addr} {fg : Nat → FuncData} (F : Fun K "parts" "parts" sParts f fd) (N : NamT mg C) (k0 : KC K C) (M : GetT P w K mg base C p g fg) : FnOk P w K mg base CX0 3 f fd ["test"] (spParts C) := by
  refine F.ok scPa (fun vs H Q E h => ?_) (fun cdv A outer s H vs Q E hr h => ?_)
  · obtain ⟨g, v, rfl, _⟩ := h
    rfl
  · obtain ⟨t, v, rfl, ht, q⟩ := h
    refine ⟨_, pss_cons (by exact (ps_if (pt_val (pe_callB call_isi (by rfl) N.isM (by decide +kernel) (pa_cons (pv 0) (pa_cons (pe_glob (v := .ref (C 5)) rfl N.n5 rfl) pa_nil)))) (pss_one (by exact (ps_ret (pe_tup (pa_cons (pe_prop (pv 0) (k0.cls 5 (by decide)) M.t.prop M.t.ok hr M.t.b .nil pass0 rfl) pa_nil))))) pss_nil)) (
      pss_cons (by exact (ps_if (pt_val (pe_callB call_isiT (by rfl) N.isM (by decide +kernel) (pa_cons (pv 0) (pa_cons (pe_tup (pa_cons (pe_glob (v := .ref (C 6)) rfl N.n6 rfl) (pa_cons (pe_glob (v := .ref (C 7)) rfl N.n7 rfl) pa_nil))) pa_nil)))) (pss_one (by exact (ps_ret (pe_tup (pa_cons (pe_or2 (pe_prop (pv 0) (k0.cls 6 (by decide)) M.b1.prop M.b1.ok hr M.b1.b .nil pass0 rfl) (pe_prop (pv 0) (k0.cls 7 (by decide)) M.e1.prop M.e1.ok hr M.e1.b .nil pass0 rfl)) (pa_cons (pe_or2 (pe_prop (pv 0) (k0.cls 6 (by decide)) M.b2.prop M.b2.ok hr M.b2.b .nil pass0 rfl) (pe_prop (pv 0) (k0.cls 7 (by decide)) M.e2.prop M.e2.ok hr M.e2.b .nil pass0 rfl)) pa_nil)))))) pss_nil)) (
      pss_one (by exact (ps_ret (pe_tup pa_nil))))), ?_⟩
    refine ⟨_, rfl, _, _, _, _, _, rfl, .own (C 5), ht.ty k0, k0.kit _ _ ht.at_.1 (by decide), _, rfl, ?_⟩
    cases t with
    | leaf s z =>
      have s5 : s < 5 := ht.1
      rw [decide_eq_false (show ¬ (G.leaf s z).cls = 5 by show ¬ s = 5; omega)]
      refine iteF ⟨_, rfl, (by show 2 ≤ sizeLine; decide), fun T nT => ?_⟩
      have sm := same_upd (o := .tup [.ref (C 6), .ref (C 7)]) nT
      refine ⟨_, T, _, _, _, _, rfl, upd_same, .cons (.own _) (.cons (.own _) .nil), (ht.same sm).ty k0, kit2 k0 ht.at_.1 (by decide) (by decide), _, rfl, ?_⟩
      rw [decide_eq_false (show ¬ ((G.leaf s z).cls = 6 ∨ (G.leaf s z).cls = 7) by show ¬ (s = 6 ∨ s = 7); omega)]
      refine iteF ⟨(by show 0 ≤ sizeLine; decide), fun U nU => ?_⟩
      exact q U [] _ upd_same .nil (sm.trans (same_upd nU))
    | fails g =>
      rw [decide_eq_true (show (G.fails g).cls = 5 from rfl)]
      obtain ⟨a, dx, u, rfl, ha, hu⟩ := ht
      refine iteT ⟨_, rfl, a, dx, _, rfl, ha, a, dx, _, u, rfl, ha, look1, (by show 1 ≤ sizeLine; decide), fun T nT => ?_⟩
      exact q T [u] _ upd_same (.cons (hu.same (same_upd nT)) .nil) (same_upd nT)
    | pair s x y =>
      have s2 : s < 2 := ht.1
      rw [decide_eq_false (show ¬ (G.pair s x y).cls = 5 by show ¬ 6 + s = 5; omega)]
      refine iteF ⟨_, rfl, (by show 2 ≤ sizeLine; decide), fun T nT => ?_⟩
      have sm := same_upd (o := .tup [.ref (C 6), .ref (C 7)]) nT
      refine ⟨_, T, _, _, _, _, rfl, upd_same, .cons (.own _) (.cons (.own _) .nil), (ht.same sm).ty k0, kit2 k0 ht.at_.1 (by decide) (by decide), _, rfl, ?_⟩
      rw [decide_eq_true (show ((G.pair s x y).cls = 6 ∨ (G.pair s x y).cls = 7) by show (6 + s = 6 ∨ 6 + s = 7); omega)]
      obtain ⟨_, a, dx, u1, u2, rfl, ha, h1, h2⟩ := ht
      have ha2 := sm _ _ ha
      have e0 : s = 0 ∨ s = 1 := by omega
      rcases e0 with rfl | rfl
      · refine iteT (.inl ⟨_, rfl, a, dx, _, rfl, ha2, a, dx, _, u1, rfl, ha2, by simp, .inl ⟨_, rfl, a, dx, _, rfl, ha2, a, dx, _, u2, rfl, ha2, rfl, (by show 2 ≤ sizeLine; decide), fun U nU => ?_⟩⟩)
        have sn := sm.trans (same_upd (o := .tup [u1, u2]) nU)
        exact q U [u1, u2] _ upd_same (.cons (h1.same sn) (.cons (h2.same sn) .nil)) sn
      · refine iteT (.inr ⟨_, rfl, a, dx, _, rfl, ha2, a, dx, _, u1, rfl, ha2, by simp, .inr ⟨_, rfl, a, dx, _, rfl, ha2, a, dx, _, u2, rfl, ha2, rfl, (by show 2 ≤ sizeLine; decide), fun U nU => ?_⟩⟩)
        have sn := sm.trans (same_upd (o := .tup [u1, u2]) nU)
        exact q U [u1, u2] _ upd_same (.cons (h1.same sn) (.cons (h2.same sn) .nil)) sn
abbrev sDepth : Stmt := top 28
abbrev sIsT : Stmt := top 26
abbrev sFits : Stmt := top 31
/-- depth_of of a test of at most n -/
def spDepth (C : Nat → Addr) (n : Nat) : Sp := fun vs H Q _ => ∃ (g : G) (v : V), vs = [v] ∧ TA C H g v ∧ g.dep ≤ n ∧ ∀ H', Same H H' → Q (.int (g.dep : Int)) H'
theorem scDe : FnScope ["test", "part"] ["test"] (defScope sDepth) := ⟨rfl, rfl, rfl, by decide +kernel, rfl, by decide +kernel, by decide +kernel⟩
theorem kids_dep : ∀ g : G, ∀ k ∈ g.kids, k.dep + 1 ≤ g.dep
  | .leaf _ _, k, h => absurd h (by simp [G.kids])
  | .fails g, k, h => by
    obtain rfl : k = g := by simpa [G.kids] using h
    show k.dep + 1 ≤ 1 + k.dep
    omega
  | .pair _ a b, k, h => by
    have e : k = a ∨ k = b := by simpa [G.kids] using h
    show k.dep + 1 ≤ 1 + max a.dep b.dep
    rcases e with rfl | rfl <;> omega
theorem kids_max (g : G) (m : Int) (h : ((g.kids.map fun k => (k.dep : Int)) = [] ∧ m = 0) ∨ (m ∈ (g.kids.map fun k => (k.dep : Int)) ∧ ∀ y ∈ (g.kids.map fun k => (k.dep : Int)), y ≤ m)) : 1 + m = (g.dep : Int) := by
  cases g with
  | leaf s z =>
    rcases h with ⟨_, rfl⟩ | ⟨h, _⟩
    · rfl
    · exact absurd h (by simp [G.kids])
  | fails g =>
    rcases h with ⟨h, _⟩ | ⟨h, _⟩
    · exact absurd h (by simp [G.kids])
    · obtain rfl : m = (g.dep : Int) := by simpa [G.kids] using h
      show 1 + (g.dep : Int) = ((1 + g.dep : Nat) : Int)
      omega
  | pair s a b =>
    rcases h with ⟨h, _⟩ | ⟨h, h2⟩
    · exact absurd h (by simp [G.kids])
    · have e : m = (a.dep : Int) ∨ m = (b.dep : Int) := by simpa [G.kids] using h
      have ha := h2 (a.dep : Int) (by simp [G.kids])
      have hb := h2 (b.dep : Int) (by simp [G.kids])
      show 1 + m = ((1 + max a.dep b.dep : Nat) : Int)
      omega
theorem paired_get {C : Nat → Addr} {H : Hp} : ∀ {gs : List G} {us : List V} {i : Nat} {u : V}, Paired (fun g u => TA C H g u) gs us → us[i]? = some u → ∃ g, gs[i]? = some g ∧ TA C H g u
  | _, _, i, u, .nil, h => by simp at h
  | _, _, 0, u, .cons a b, h => by
    rw [List.getElem?_cons_zero] at h
    cases h
    exact ⟨_, rfl, a⟩
  | _, _, i + 1, u, .cons a b, h => by
    rw [List.getElem?_cons_succ] at h ⊢
    exact paired_get b h
theorem paired_len {C : Nat → Addr} {H : Hp} : ∀ {gs : List G} {us : List V}, Paired (fun g u => TA C H g u) gs us → gs.length = us.length
  | _, _, .nil => rfl
  | _, _, .cons a b => by rw [List.length_cons, List.length_cons, paired_len b]
theorem kids_two (g : G) : g.kids.length ≤ 2 := by cases g <;> simp [G.kids]
theorem ok_depth {f f1 : Addr} {fd fd1 : FuncData} (F : Fun K "depth_of" "depth_of" sDepth f fd) (mX : mg "max" = none) (mD : mg "depth_of_conditions" = some (.ref f)) (kD : PySem.W.keepIn K (.ref f) = true) (bD : Binds K fd ["test"] []) (M : CallOf P w K mg base 3 "parts" ["test"] (spParts C) f1 fd1) :
    ∀ n, FnOk P w K mg base CX0 (n + 3) f fd ["test"] (spDepth C n) := by
  intro n
  induction n with
  | zero =>
    refine F.ok scDe (fun vs H Q E h => ?_) (fun cdv A outer s H vs Q E hr h => ?_)
    · obtain ⟨g, v, rfl, _⟩ := h
      rfl
    · obtain ⟨g, v, rfl, _, d, _⟩ := h
      have := g.dep_pos
      omega
  | succ n ih =>
    refine F.ok scDe (fun vs H Q E h => ?_) (fun cdv A outer s H vs Q E hr h => ?_)
    · obtain ⟨g, v, rfl, _⟩ := h
      rfl
    · obtain ⟨t, v, rfl, ht, hd, q⟩ := h
      have hr3 : Room 3 _ := hr.mono (by omega)
      refine ⟨_, pss_one (by exact (ps_ret (pe_op op_add pe_int (pe_callBK (cr_maxOr rfl) (by rfl) mX (by decide +kernel) (pa_cons (pe_lc (own := [("part", 1)]) (g := gName 1) (tt := tYes) (te := tCall (spDepth C n) [] (fun _ _ _ => False) (tCons (tVar 1) tNil)) rfl scDe.nd (pi_tup (pe_call M.ok hr3 rfl M.m M.k M.b .nil pass0 (pa_cons (pv 0) pa_nil)))
        (blkOk_by (N := ["test", "part"]) (sc := defScope sDepth) (by decide +kernel))
        (fun _ _ _ _ _ => by exact (pg_name (i := 1) scDe.nd rfl (Or.inl rfl)))
        (fun _ _ _ _ _ => by exact pts_nil)
        (fun _ _ _ _ _ => by exact (pe_call ih hr rfl mD kD bD .nil pass0 (pa_cons (pv 1) pa_nil)))) pa_nil) (pk_cons pe_int pk_nil))))), ?_⟩
      refine ⟨_, rfl, t, v, rfl, ht, fun p us H1 hp kids s1 => ?_⟩
      refine ⟨p, rfl, ⟨us, SqT.of hp⟩, fun D nD => ?_⟩
      have nDp : p ≠ D := ne_of_none hp nD
      refine lc_it (walk_tup (xs := us)) (fun i X => X D = some (.lst ((t.kids.take i).map fun k => V.int (k.dep : Int))) ∧ Same H1 X) ⟨upd_same, same_upd nD⟩ (fun i X _ p2 => SqT.of (p2.2 _ _ hp)) (fun i x X X' hi p2 yl => ?_) (fun X p2 => ?_)
      · obtain ⟨pD, pS⟩ := p2
        obtain ⟨rfl, hx⟩ := yl
        obtain ⟨k, hk, tk⟩ := paired_get kids hx
        refine ⟨rfl, ?_⟩
        dsimp only [tYes]
        rw [if_pos rfl]
        have kd := kids_dep t k (List.mem_of_getElem? hk)
        refine ⟨_, rfl, k, _, rfl, tk.same pS, by omega, fun X2 s2 => ⟨_, s2 _ _ pD, ?_, ?_, ?_⟩⟩
        · rw [List.length_map, List.length_take]
          have := kids_two t
          exact Nat.lt_of_le_of_lt (Nat.le_trans (Nat.min_le_right _ _) this) (by decide)
        · rw [List.take_succ, hk, List.map_append]
          exact upd_same
        · intro b o e
          rw [upd_ne (ne_of_none e nD)]
          exact s2 _ _ (pS b o e)
      · obtain ⟨pD, pS⟩ := p2
        have e : t.kids.take us.length = t.kids := List.take_of_length_le (by rw [paired_len kids]; exact Nat.le_refl _)
        rw [e] at pD
        refine ⟨D, t.kids.map fun k => (k.dep : Int), 0, rfl, rfl, SqL.of (by rw [pD, List.map_map]; rfl), fun m hm => ⟨_, _, rfl, rfl, ?_⟩⟩
        show Q (.int (1 + m)) X
        rw [kids_max t m hm]
        exact q X (s1.trans pS)
/-- any value, or a test of at most eight, and whether it may stand within one -/
def FitV (C : Nat → Addr) (H : Hp) (x : V) (r : Bool) : Prop := (AnyV H x ∧ r = false) ∨ ∃ g, TA C H g x ∧ g.dep ≤ 8 ∧ r = decide (g.dep < 8)
theorem FitV.same {C : Nat → Addr} {H H' : Hp} {x : V} {r : Bool} (s : Same H H') (h : FitV C H x r) : FitV C H' x r := by
  rcases h with ⟨a, e⟩ | ⟨g, a, b, e⟩
  · exact .inl ⟨a.same s, e⟩
  · exact .inr ⟨g, a.same s, b, e⟩
theorem no_ref (a : Addr) : ∀ l : List String, (l.map Value.type).contains (Value.ref a) = false
  | [] => rfl
  | n :: l => by
    show (Value.ref a == Value.type n || (l.map Value.type).contains (Value.ref a)) = false
    rw [no_ref a l]
    rfl
theorem kit_bi (k0 : KC K C) {n : String} {l : List String} (m : fastBuiltinMro n = some (l.map Value.type)) {j : Nat} (hj : j < 8) : PySem.W.kitOne K (.type n) (.ref (C j)) = some false := by
  obtain ⟨i, hi, ne⟩ : ∃ i, i < 8 ∧ i ≠ j := by
    by_cases h : j = 0
    · exact ⟨1, by decide, by omega⟩
    · exact ⟨0, by decide, by omega⟩
  have z := k0.kit i j hi hj
  rw [decide_eq_false ne] at z
  unfold PySem.W.kitOne at z ⊢
  have h1 : (Value.type n == Value.ref (C j)) = false := rfl
  rw [h1]
  split at z
  · cases z
  · unfold PySem.W.kitCls at z ⊢
    dsimp only at z ⊢
    split at z
    · rename_i cnd
      rw [if_pos cnd]
      show (fastBuiltinMro n).map (·.contains (Value.ref (C j))) = some false
      rw [m]
      show some ((l.map Value.type).contains (Value.ref (C j))) = some false
      rw [no_ref]
    · cases z
theorem tyN_mro : ∀ n, (n = "str" ∨ n ∈ tyN) → ∃ l : List String, fastBuiltinMro n = some (l.map Value.type) := by
  intro n h
  have h : n ∈ ["str", "NoneType", "bool", "int", "list", "tuple", "dict"] := by
    rcases h with rfl | h
    · decide
    · exact List.mem_cons_of_mem _ h
  unfold fastBuiltinMro
  have key : ∀ m ∈ ["str", "NoneType", "bool", "int", "list", "tuple", "dict"], (fastFind? m).isSome = true := by decide +kernel
  obtain ⟨c, hc⟩ := Option.isSome_iff_exists.mp (key n h)
  exact ⟨c.mro, by rw [hc]; rfl⟩
theorem kit_out {n : String} (k0 : KC K C) (h : n = "str" ∨ n ∈ tyN) : ∀ (l : List Nat), (∀ j ∈ l, j < 8) → PySem.W.kitAny K (.type n) (l.map fun j => Value.ref (C j)) = some false
  | [], _ => rfl
  | j :: r, hl => by
    obtain ⟨m, hm⟩ := tyN_mro n h
    exact kitAny_cons (kit_bi k0 hm (hl j (by simp))) (fun _ => kit_out k0 h r fun x hx => hl x (List.mem_cons_of_mem _ hx)) fun z => nomatch z
/-- is_test: a test, or any other value -/
def spIsT (C : Nat → Addr) : Sp := fun vs H Q _ => ∃ (x : V) (r : Bool), vs = [x] ∧ ((AnyV H x ∧ r = false) ∨ ∃ g, TA C H g x ∧ r = true) ∧ ∀ H', Same H H' → Q (.bl r) H'
theorem scIt : FnScope ["value"] ["value"] (defScope sIsT) := ⟨rfl, rfl, rfl, by decide +kernel, rfl, by decide +kernel, by decide +kernel⟩
theorem kit_in {i : Nat} (k0 : KC K C) (hi : i < 8) : ∀ (l : List Nat), (∀ j ∈ l, j < 8) → i ∈ l → PySem.W.kitAny K (.ref (C i)) (l.map fun j => Value.ref (C j)) = some true
  | [], _, h => absurd h (by simp)
  | j :: r, hl, h => by
    refine kitAny_cons (k0.kit i j hi (hl j (by simp))) (fun e => ?_) (fun _ => rfl)
    have ne := of_decide_eq_false e
    rcases List.mem_cons.mp h with y | y
    · exact absurd y ne
    · exact kit_in k0 hi r (fun x hx => hl x (List.mem_cons_of_mem _ hx)) y
theorem ok_isT {f : Addr} {fd : FuncData} (F : Fun K "is_test" "is_test" sIsT f fd) (N : NamT mg C) (k0 : KC K C) : FnOk P w K mg base CX0 1 f fd ["value"] (spIsT C) := by
  refine F.ok scIt (fun vs H Q E h => ?_) (fun cdv A outer s H vs Q E hr h => ?_)
  · obtain ⟨x, r, rfl, _⟩ := h
    rfl
  · obtain ⟨x, r, rfl, hx, q⟩ := h
    refine ⟨_, pss_one (by exact (ps_ret (pe_callB call_isiT (by rfl) N.isM (by decide +kernel) (pa_cons (pv 0) (pa_cons (pe_tup (pa_cons (pe_glob (v := .ref (C 0)) rfl N.n0 rfl) (pa_cons (pe_glob (v := .ref (C 1)) rfl N.n1 rfl) (pa_cons (pe_glob (v := .ref (C 2)) rfl N.n2 rfl) (pa_cons (pe_glob (v := .ref (C 3)) rfl N.n3 rfl)
      (pa_cons (pe_glob (v := .ref (C 4)) rfl N.n4 rfl) (pa_cons (pe_glob (v := .ref (C 5)) rfl N.n5 rfl) (pa_cons (pe_glob (v := .ref (C 6)) rfl N.n6 rfl) (pa_cons (pe_glob (v := .ref (C 7)) rfl N.n7 rfl) pa_nil))))))))) pa_nil))))), ?_⟩
    refine ⟨_, rfl, (by show 8 ≤ sizeLine; decide), fun T nT => ?_⟩
    have sm := same_upd (o := .tup [.ref (C 0), .ref (C 1), .ref (C 2), .ref (C 3), .ref (C 4), .ref (C 5), .ref (C 6), .ref (C 7)]) nT
    rcases hx with ⟨a, rfl⟩ | ⟨g, hg, rfl⟩
    · obtain ⟨n, hn, ty⟩ := (a.same sm).cls (K := K)
      exact ⟨_, T, _, _, _, false, rfl, upd_same, .cons (.own _) (.cons (.own _) (.cons (.own _) (.cons (.own _) (.cons (.own _) (.cons (.own _) (.cons (.own _) (.cons (.own _) .nil))))))), ty, kit_out k0 hn [0, 1, 2, 3, 4, 5, 6, 7] (by decide), q _ sm⟩
    · have lt := hg.at_.1
      have kk := kit_in k0 lt [0, 1, 2, 3, 4, 5, 6, 7] (by decide) (by
        have : ∀ i, i < 8 → i ∈ [0, 1, 2, 3, 4, 5, 6, 7] := by decide
        exact this _ lt)
      exact ⟨_, T, _, _, _, true, rfl, upd_same, .cons (.own _) (.cons (.own _) (.cons (.own _) (.cons (.own _) (.cons (.own _) (.cons (.own _) (.cons (.own _) (.cons (.own _) .nil))))))), (hg.same sm).ty k0, kk, q _ sm⟩
/-- fits_within of any value or test -/
def spFits (C : Nat → Addr) : Sp := fun vs H Q _ => ∃ (x : V) (r : Bool), vs = [x] ∧ FitV C H x r ∧ ∀ H', Same H H' → Q (.bl r) H'
theorem scFi : FnScope ["value"] ["value"] (defScope sFits) := ⟨rfl, rfl, rfl, by decide +kernel, rfl, by decide +kernel, by decide +kernel⟩
theorem ok_fits {f f1 f2 : Addr} {fd fd1 fd2 : FuncData} {t5 : Tok} (F : Fun K "fits_within" "fits_within" sFits f fd) (mM : mg "MAX_DEPTH" = some (.int 8 t5)) (M : CallOf P w K mg base 1 "is_test" ["value"] (spIsT C) f1 fd1) (D : CallOf P w K mg base 11 "depth_of_conditions" ["test"] (spDepth C 8) f2 fd2) :
    FnOk P w K mg base CX0 12 f fd ["value"] (spFits C) := by
  refine F.ok scFi (fun vs H Q E h => ?_) (fun cdv A outer s H vs Q E hr h => ?_)
  · obtain ⟨x, r, rfl, _⟩ := h
    rfl
  · obtain ⟨x, r, rfl, hx, q⟩ := h
    have hr1 : Room 1 _ := hr.mono (by decide)
    refine ⟨_, pss_one (by exact (ps_ret (pe_and (pe_call M.ok hr1 rfl M.m M.k M.b .nil pass0 (pa_cons (pv 0) pa_nil)) (pe_one (pe_cmpR op_lt (pe_call D.ok hr rfl D.m D.k D.b .nil pass0 (pa_cons (pv 0) pa_nil)) (pe_glob (v := .int 8) rfl mM ⟨_, rfl⟩) (nomark _)))))), ?_⟩
    rcases hx with ⟨a, rfl⟩ | ⟨g, hg, d8, rfl⟩
    · exact ⟨_, rfl, x, false, rfl, .inl ⟨a, rfl⟩, fun H1 s1 => ⟨_, rfl, iteF (q H1 s1)⟩⟩
    · refine ⟨_, rfl, x, true, rfl, .inr ⟨g, hg, rfl⟩, fun H1 s1 => ⟨_, rfl, iteT ⟨_, rfl, g, x, rfl, hg.same s1, d8, fun H2 s2 => ⟨_, _, rfl, rfl, ?_⟩⟩⟩⟩
      show Q (.bl (decide ((g.dep : Int) < 8))) H2
      have e : decide ((g.dep : Int) < 8) = decide (g.dep < 8) := by
        by_cases h : g.dep < 8
        · rw [decide_eq_true h, decide_eq_true (by omega)]
        · rw [decide_eq_false h, decide_eq_false (by omega)]
      rw [e]
      exact q H2 (s1.trans s2)
end
end LA
end
section
set_option Elab.async false
set_option linter.all false
set_option maxRecDepth 100000
set_option maxHeartbeats 4100000
namespace LA
open PySem L2 XS XT XK
/-- the inner walk of two -/
theorem walk_in {J : It} {n : Nat} {G0 : Hp → Prop} {Y : Nat → Hp → V → Hp → Prop} {B : V → Hp → (Hp → Prop) → Prop} {Nx : Hp → Prop} {H1 : Hp} (w : Walk J n G0 Y) (Pv : Nat → Hp → Prop) (h0 : Pv 0 H1) (hG : ∀ i H, i ≤ n → Pv i H → G0 H)
    (hs : ∀ i x H H', i < n → Pv i H → Y i H x H' → B x H' (Pv (i + 1))) (hd : ∀ H, Pv n H → Nx H) :
    ∃ W : Nat → Nat → Hp → Prop, (∃ m, W 0 m H1) ∧ ∀ i m H, W i m H → (J.stop i H ∧ Nx H) ∨ (J.go i H ∧ ∃ Nx1 : Hp → Prop, (∀ H', Nx1 H' → ∃ m', m' < m ∧ W (i + 1) m' H') ∧ ∀ x H', J.yld i H x H' → B x H' Nx1) := by
  refine ⟨fun i m H => m = n - i ∧ i ≤ n ∧ Pv
        i H, ⟨n, by simp, Nat.zero_le _, h0⟩, ?_⟩
  rintro i m H ⟨rfl, le, p⟩
  have q := hG i H le p
  by_cases lt : i < n
  · exact .inr ⟨w.goes i H lt q, Pv (i + 1), fun H' p' => ⟨n - (i + 1), by omega, rfl, lt, p'⟩, fun x H' y => hs i x H H' lt p (w.yields i H x H' lt q y)⟩
  · obtain rfl : i = n := by omega
    exact .inl ⟨w.stops
          H q, hd H p⟩
abbrev sSimple : Stmt := top 30
section
variable {P : Program} {w : World} {K : PySem.W.Frag} {mg : Str → Option Value} {base : Heap} {C : Nat → Addr}
theorem fresh_back {H H' : Hp} {p : Addr} (s : Same H H') (n : H' p = none) : H p = none := by
  cases e : H p with
  | none => rfl
  | some o => exact absurd ((s _ _ e).symm.trans n) (by simp)
/-- simple_tests of a test of at most n: a new list of so many -/
def spSimple (C : Nat → Addr) (n : Nat) : Sp := fun vs H Q _ => ∃ (g : G) (v : V), vs = [v] ∧ TA C H g v ∧ g.dep ≤ n ∧ g.lv ≤ 1000 ∧ ∀ (p : Addr) (xs : List V) (H' : Hp), H' p = some (.lst xs) → xs.length = g.lv → H p = none → Same H H' → Q (.ref p) H'
theorem scSi : FnScope ["test", "inner", "part", "simple"] ["test"] (defScope sSimple) := ⟨rfl, rfl, rfl, by decide +kernel, rfl, by decide +kernel, by decide +kernel⟩
def lvs : List G → Nat
  | [] => 0
  | g :: r => g.lv + lvs r
theorem lvs_kids (g : G) (h : g.kids ≠ []) : lvs g.kids = g.lv := by
  cases g with
  | leaf s z => exact absurd rfl h
  | fails g => rfl
  | pair s a b => rfl
theorem lvs_take : ∀ (l : List G) (i : Nat) (k : G), l[i]? = some k → lvs (l.take (i + 1)) = lvs (l.take i) + k.lv
  | [], i, k, h => by simp at h
  | g :: r, 0, k, h => by
    rw [List.getElem?_cons_zero] at h
    cases h
    show g.lv + 0 = 0 + g.lv
    omega
  | g :: r, i + 1, k, h => by
    rw [List.getElem?_cons_succ] at h
    show g.lv + lvs (r.take (i + 1)) = g.lv + lvs (r.take i) + k.lv
    rw [lvs_take r i k h]
    omega
theorem lvs_le : ∀ (l : List G) (k : G), k ∈ l → k.lv ≤ lvs l
  | g :: r, k, h => by
    show k.lv ≤ g.lv + lvs r
    rcases List.mem_cons.mp h with rfl | y
    · omega
    · have := lvs_le r k y
      omega
theorem lvs_take_le : ∀ (l : List G) (i : Nat), lvs (l.take i) ≤ lvs l
  | [], i => by simp
  | g :: r, 0 => Nat.zero_le _
  | g :: r, i + 1 => by
    show g.lv + lvs (r.take i) ≤ g.lv + lvs r
    have := lvs_take_le r i
    omega
theorem ok_simple {f f1 : Addr} {fd fd1 : FuncData} (F : Fun K "simple_tests" "simple_tests" sSimple f fd) (mD : mg "simple_tests" = some (.ref f)) (kD : PySem.W.keepIn K (.ref f) = true) (bD : Binds K fd ["test"] []) (M : CallOf P w K mg base 3 "parts" ["test"] (spParts C) f1 fd1) :
    ∀ n, FnOk P w K mg base CX0 (n + 3) f fd ["test"] (spSimple C n) := by
  intro n
  induction n with
  | zero =>
    refine F.ok scSi (fun vs H Q E h => ?_) (fun cdv A outer s H vs Q E hr h => ?_)
    · obtain ⟨g, v, rfl, _⟩ := h
      rfl
    · obtain ⟨g, v, rfl, _, d, _⟩ := h
      have := g.dep_pos
      omega
  | succ n ih =>
    refine F.ok scSi (fun vs H Q E h => ?_) (fun cdv A outer s H vs Q E hr h => ?_)
    · obtain ⟨g, v, rfl, _⟩ := h
      rfl
    · obtain ⟨t, v, rfl, ht, hd, hv, q⟩ := h
      have hr3 : Room 3 _ := hr.mono (by omega)
      refine ⟨_, pss_cons (by exact (ps_set (i := 1) scSi.nd rfl (.inl rfl) (pe_call M.ok hr3 rfl M.m M.k M.b .nil pass0 (pa_cons (pv 0) pa_nil)))) (
        pss_cons (by exact (ps_if (pt_not (pt_truth (pv 1) (fun _ => rfl))) (pss_one (by exact (ps_ret (pe_lst (pa_cons (pv 0) pa_nil))))) pss_nil)) (
        pss_one (by exact (ps_ret (pe_lc2 (own := [("part", 2), ("simple", 3)]) (vs1 := [3]) (g := gName 2) (tt := tYes) (g1 := gName 3) (tt1 := tYes) (wi1 := iList K (tCall (spSimple C n) [] (fun _ _ _ => False) (tCons (tVar 2) tNil))) (te := tVar 3) rfl scSi.nd (pi_tup (pv 1))
          (blkOk_by (N := ["test", "inner", "part", "simple"]) (sc := defScope sSimple) (by decide +kernel)) (by decide)
          (fun _ _ _ _ _ => by exact (pg_name (i := 2) scSi.nd rfl (Or.inl rfl)))
          (fun _ _ _ _ _ => by exact pts_nil)
          (fun _ _ _ _ _ => by exact (pi_list (pe_call ih hr rfl mD kD bD .nil pass0 (pa_cons (pv 2) pa_nil))))
          (fun _ _ _ _ _ => by exact (pg_name (i := 3) scSi.nd rfl (Or.inl rfl)))
          (fun _ _ _ _ _ => by exact pts_nil)
          (fun _ _ _ _ _ => by exact (pv 3))))))), ?_⟩
      refine ⟨_, rfl, t, v, rfl, ht, fun p us H1 hp kids s1 => ?_⟩
      refine ⟨_, rfl, !us.isEmpty, .inr (.inl ⟨us, SqT.of hp, rfl⟩), ?_⟩
      cases us with
      | nil =>
        refine iteT ⟨_, rfl, (by show 1 ≤ sizeLine; decide), fun L nL => ?_⟩
        have e : t.lv = 1 := by
          cases t with
          | leaf s z => rfl
          | fails g => cases kids
          | pair s a b => cases kids
        exact q L _ _ upd_same (by rw [e]; rfl) (fresh_back s1 nL) (s1.trans (same_upd nL))
      | cons u0 r0 =>
        have ne : t.kids ≠ [] := by
          intro z
          rw [z] at kids
          cases kids
        refine iteF ⟨_, rfl, p, rfl, ⟨_, SqT.of hp⟩, fun D nD => ?_⟩
        generalize hus : u0 :: r0 = us at hp kids
        have nDp : p ≠ D := ne_of_none hp nD
        have tot := lvs_kids t ne
        refine walk_in (walk_tup (K := K) (a := p) (xs := us)) (fun i X => ∃ acc, X D = some (.lst acc) ∧ acc.length = lvs (t.kids.take i) ∧ Same H1 X) ⟨[], upd_same, rfl, same_upd nD⟩ (fun i X _ ⟨_, _, _, p2⟩ => SqT.of (p2 _ _ hp)) (fun i x X X' hi p2 yl => ?_) (fun X p2 => ?_)
        · obtain ⟨acc, pD, pl, pS⟩ := p2
          obtain ⟨rfl, hx⟩ := yl
          obtain ⟨k, hk, tk⟩ := paired_get kids hx
          refine ⟨rfl, ?_⟩
          dsimp only [tYes]
          rw [if_pos rfl]
          have kd := kids_dep t k (List.mem_of_getElem? hk)
          have kl := lvs_le t.kids k (List.mem_of_getElem? hk)
          refine ⟨_, rfl, k, _, rfl, tk.same pS, by omega, by omega, fun L xs X2 hL lx nL s2 => ⟨L, rfl, ⟨xs, SqL.of hL⟩, ?_⟩⟩
          have nLD : L ≠ D := fun z => by rw [z, pD] at nL; cases nL
          refine walk_in (walk_list (K := K) (a := L) (xs := xs)) (fun j Z => ∃ acc, Z D = some (.lst acc) ∧ acc.length = lvs (t.kids.take i) + j ∧ Same H1 Z ∧ Z L = some (.lst xs)) ⟨acc, s2 _ _ pD, pl, pS.trans s2, hL⟩ (fun j Z _ ⟨_, _, _, _, z⟩ => SqL.of z) (fun j y Z Z' hj p3 yl2 => ?_) (fun Z p3 => ?_)
          · obtain ⟨acc2, qD, ql, qS, qL⟩ := p3
            obtain ⟨rfl, hy⟩ := yl2
            refine ⟨rfl, ?_⟩
            dsimp only [tYes]
            rw [if_pos rfl]
            have bound := lvs_take_le t.kids i
            refine ⟨_, rfl, acc2, qD, Nat.lt_of_le_of_lt (show acc2.length ≤ 2000 by omega) (by decide), _, upd_same, ?_, ?_, ?_⟩
            · rw [List.length_append, ql]
              rfl
            · intro b o e
              rw [upd_ne (ne_of_none e nD)]
              exact qS b o e
            · rw [upd_ne nLD]
              exact qL
          · obtain ⟨acc2, qD, ql, qS, qL⟩ := p3
            exact ⟨acc2, qD, by rw [lvs_take _ _ _ hk, ← lx]; exact ql, qS⟩
        · obtain ⟨acc, pD, pl, pS⟩ := p2
          have e : t.kids.take us.length = t.kids := List.take_of_length_le (by rw [paired_len kids]; exact Nat.le_refl _)
          rw [e, tot] at pl
          exact q D acc X pD pl (fresh_back s1 nD) (s1.trans pS)
end
end LA
end
section
set_option Elab.async false
set_option linter.all false
set_option maxRecDepth 100000
set_option maxHeartbeats 4100000
namespace LA
open PySem L2 XS XT XK
abbrev sFitT : Stmt := top 33
/-- a class whose objects keep two values -/
structure C2 (K : PySem.W.Frag) (C : Addr) : Prop where
  cls : Cls K C
  one : NoAttr K C "_one"
  oth : NoAttr K C "_other"
section
variable {P : Program} {w : World} {K : PySem.W.Frag} {mg : Str → Option Value} {base : Heap} {C : Nat → Addr}
def spFitT (C : Nat → Addr) : Sp := fun vs H Q _ => ∃ (a b : G) (u v : V), vs = [u, v] ∧ TA C H a u ∧ TA C H b v ∧ a.dep ≤ 8 ∧ b.dep ≤ 8 ∧ a.lv ≤ 500 ∧ b.lv ≤ 500 ∧ ∀ H', Same H H' → Q (.bl (decide (a.lv + b.lv ≤ 8))) H'
theorem scFt : FnScope ["one", "other"] ["one", "other"] (defScope sFitT) := ⟨rfl, rfl, rfl, by decide +kernel, rfl, by decide +kernel, by decide +kernel⟩
theorem ok_fitT {f f1 : Addr} {fd fd1 : FuncData} {t5 : Tok} (F : Fun K "fit_together" "fit_together" sFitT f fd) (mL : mg "len" = none) (mM : mg "MOST_SIMPLE" = some (.int 8 t5)) (M : CallOf P w K mg base 11 "simple_tests" ["test"] (spSimple C 8) f1 fd1) :
    FnOk P w K mg base CX0 12 f fd ["one", "other"] (spFitT C) := by
  refine F.ok scFt (fun vs H Q E h => ?_) (fun cdv A outer s H vs Q E hr h => ?_)
  · obtain ⟨a, b, u, v, rfl, _⟩ := h
    rfl
  · obtain ⟨a, b, u, v, rfl, ha, hb, da, db, la, lb, q⟩ := h
    refine ⟨_, pss_one (by exact (ps_ret (pe_cmpR op_le (pe_op op_add (pe_callB call_len_seq (by rfl) mL PySem.boot_len (pa_cons (pe_call M.ok hr rfl M.m M.k M.b .nil pass0 (pa_cons (pv 0) pa_nil)) pa_nil)) (pe_callB call_len_seq (by rfl) mL PySem.boot_len (pa_cons (pe_call M.ok hr rfl M.m M.k M.b .nil pass0 (pa_cons (pv 1) pa_nil)) pa_nil))) (pe_glob (v := .int 8) rfl mM ⟨_, rfl⟩) (nomark _)))), ?_⟩
    refine ⟨_, rfl, a, u, rfl, ha, da, by omega, fun p xs H1 h1 l1 _ s1 => ⟨p, xs, rfl, .inl (SqL.of h1), ?_⟩⟩
    refine ⟨_, rfl, b, v, rfl, hb.same s1, db, by omega, fun p2 ys H2 h2 l2 _ s2 => ⟨p2, ys, rfl, .inl (SqL.of h2), _, _, rfl, rfl, _, _, rfl, rfl, ?_⟩⟩
    show Q (.bl (decide ((xs.length : Int) + (ys.length : Int) ≤ 8))) H2
    have e : decide ((xs.length : Int) + (ys.length : Int) ≤ 8) = decide (a.lv + b.lv ≤ 8) := by
      rw [l1, l2]
      by_cases h : a.lv + b.lv ≤ 8
      · rw [decide_eq_true h, decide_eq_true (by omega)]
      · rw [decide_eq_false h, decide_eq_false (by omega)]
    rw [e]
    exact q H2 (s1.trans s2)
/-- what two values that shall stand within one test lead to: good, or the error -/
def TwoW (C : Nat → Addr) (D : Addr) (H : Hp) (u v : V) (E : XK) (good : Prop) : Prop := ∃ ru rv, FitV C H u ru ∧ FitV C H v rv ∧ (ru = false → Refuses D H E "one") ∧ (ru = true → rv = false → Refuses D H E "other") ∧
  (ru = true → rv = true → ∃ a b, TA C H a u ∧ TA C H b v ∧ a.dep ≤ 8 ∧ b.dep ≤ 8 ∧ a.lv ≤ 500 ∧ b.lv ≤ 500 ∧ (a.lv + b.lv ≤ 8 → good) ∧ (¬ a.lv + b.lv ≤ 8 → Refuses D H E "other"))
theorem TwoW.imp {D : Addr} {H : Hp} {u v : V} {E : XK} {p q : Prop} (h : TwoW C D H u v E p) (i : p → q) : TwoW C D H u v E q := by
  obtain ⟨ru, rv, h1, h2, h3, h4, h5⟩ := h
  refine ⟨ru, rv, h1, h2, h3, h4, fun a b => ?_⟩
  obtain ⟨x, y, z1, z2, z3, z4, z5, z6, z7, z8⟩ := h5 a b
  exact ⟨x, y, z1, z2, z3, z4, z5, z6, fun e => i (z7 e), z8⟩
def spChkP (C : Nat → Addr) (D : Addr) : Sp := fun vs H Q E => ∃ (u v : V), vs = [u, v] ∧ TwoW C D H u v E (∀ H', Same H H' → Q .non H')
theorem scCp : FnScope ["one", "other"] ["one", "other"] (defScope sChkP) := ⟨rfl, rfl, rfl, by decide +kernel, rfl, by decide +kernel, by decide +kernel⟩
theorem ok_chkP {f f1 f2 D fI : Addr} {fd fd1 fd2 fdI : FuncData} (F : Fun K "check_pair" "check_pair" sChkP f fd) (X : ErrAt P w K mg base D fI fdI) (M : CallOf P w K mg base 12 "fits_within_conditions" ["value"] (spFits C) f1 fd1) (N : CallOf P w K mg base 12 "fit_together" ["one", "other"] (spFitT C) f2 fd2) :
    FnOk P w K mg base (L2.CX P w) 13 f fd ["one", "other"] (spChkP C D) := by
  refine F.okX scCp (fun vs H Q E h => ?_) (fun cdv A outer s H vs Q E hr h => ?_)
  · obtain ⟨u, v, rfl, _⟩ := h
    rfl
  · obtain ⟨u, v, rfl, ru, rv, hu, hv, q1, q2, q3⟩ := h
    have hr2 : Room 2 _ := hr.mono (by decide)
    refine ⟨_, pss_cons (by exact (ps_if (pt_not (pt_val (pe_call M.ok hr rfl M.m M.k M.b .nil pass0 (pa_cons (pv 0) pa_nil)))) (pss_one (ps_raise rfl (takes_of rfl rfl rfl rfl) (pmk_oex X.T X.i X.ty X.ok hr2 X.b .nil pass0 rfl X.m (pa_cons pe_str pa_nil)))) pss_nil)) (
      pss_one (by exact (ps_if (PW.pt (pw_or (pt_not (pt_val (pe_call M.ok hr rfl M.m M.k M.b .nil pass0 (pa_cons (pv 1) pa_nil)))) (pw_or1 (pt_not (pt_val (pe_call N.ok hr rfl N.m N.k N.b .nil pass0 (pa_cons (pv 0) (pa_cons (pv 1) pa_nil))))))))
        (pss_one (ps_raise rfl (takes_of rfl rfl rfl rfl) (pmk_oex X.T X.i X.ty X.ok hr2 X.b .nil pass0 rfl X.m (pa_cons pe_str pa_nil)))) pss_nil))), ?_⟩
    refine ⟨_, rfl, u, ru, rfl, hu, fun H1 s1 => ⟨_, rfl, ?_⟩⟩
    cases ru with
    | false => exact iteT (rd_raise X.T X.no ((q1 rfl).later s1))
    | true =>
      refine iteF ⟨_, rfl, v, rv, rfl, hv.same s1, fun H2 s2 => ⟨_, rfl, ?_⟩⟩
      have s3 := s1.trans s2
      cases rv with
      | false => exact iteT (rd_raise X.T X.no ((q2 rfl rfl).later s3))
      | true =>
        obtain ⟨a, b, ha, hb, da, db, la, lb, g, n⟩ := q3 rfl rfl
        refine iteF ⟨_, rfl, _, rfl, a, b, u, v, rfl, ha.same s3, hb.same s3, da, db, la, lb, fun H3 s4 => ⟨_, rfl, ?_⟩⟩
        by_cases h : a.lv + b.lv ≤ 8
        · rw [decide_eq_true h]
          exact iteF (g h H3 (s3.trans s4))
        · rw [decide_eq_false h]
          exact iteT (rd_raise X.T X.no ((n h).later (s3.trans s4)))
/-- the making of a test of one -/
def spInitF (C : Nat → Addr) (D : Addr) : Sp := fun vs H Q E => ∃ (a dx : Addr) (u : V) (r : Bool), vs = [.ref a, u] ∧ H a = some (.ins (C 5) dx []) ∧ FitV C H u r ∧ (r = true → ∀ H', H' a = some (.ins (C 5) dx [("_test", u)]) → But a H H' → Q .non H') ∧ (r = false → Refuses D H E "test")
abbrev sIFa : Stmt := cb 23 0
theorem scIFa : FnScope ["self", "test"] ["self", "test"] (defScope sIFa) := ⟨rfl, rfl, rfl, by decide +kernel, rfl, by decide +kernel, by decide +kernel⟩
theorem ok_IFa {f f1 D fI : Addr} {fd fd1 fdI : FuncData} (F : Fun K "__init__" "Fails.__init__" sIFa f fd) (T : C1 K (C 5) "_test") (X : ErrAt P w K mg base D fI fdI) (M : CallOf P w K mg base 12 "fits_within_conditions" ["value"] (spFits C) f1 fd1) : FnOk P w K mg base (L2.CX P w) 14 f fd ["self", "test"] (spInitF C D) := by
  refine F.okX scIFa (fun vs H Q E h => ?_) (fun cdv A outer s H vs Q E hr h => ?_)
  · obtain ⟨a, dx, u, r, rfl, _⟩ := h
    rfl
  · obtain ⟨a, dx, u, r, rfl, ha, hu, q1, q2⟩ := h
    have hr2 : Room 2 _ := hr.mono (by decide)
    have hr12 : Room 12 _ := hr.mono (by decide)
    refine ⟨_, pss_cons (by exact (ps_if (pt_not (pt_val (pe_call M.ok hr12 rfl M.m M.k M.b .nil pass0 (pa_cons (pv 1) pa_nil)))) (pss_one (ps_raise rfl (takes_of rfl rfl rfl rfl) (pmk_oex X.T X.i X.ty X.ok hr2 X.b .nil pass0 rfl X.m (pa_cons pe_str pa_nil)))) pss_nil)) (pss_one (by exact (ps_fld (pv 0) (pv 1) rfl))), ?_⟩
    refine ⟨_, rfl, u, r, rfl, hu, fun H1 s1 => ⟨_, rfl, ?_⟩⟩
    cases r with
    | false => exact iteT (rd_raise X.T X.no ((q2 rfl).later s1))
    | true =>
      refine iteF ⟨_, rfl, _, rfl, a, C 5, dx, [], rfl, s1 _ _ ha, T.cls, T.no, by decide, ?_⟩
      exact q1 rfl _ upd_same (But.same_put s1)
/-- the making of a test of two -/
def spInitP (C : Nat → Addr) (B D : Addr) : Sp := fun vs H Q E => ∃ (a dx : Addr) (u v : V), vs = [.ref a, u, v] ∧ H a = some (.ins B dx []) ∧ TwoW C D H u v E (∀ H', H' a = some (.ins B dx [("_one", u), ("_other", v)]) → But a H H' → Q .non H')
abbrev sIBoth : Stmt := cb 24 0
theorem scIBoth : FnScope ["self", "one", "other"] ["self", "one", "other"] (defScope sIBoth) := ⟨rfl, rfl, rfl, by decide +kernel, rfl, by decide +kernel, by decide +kernel⟩
theorem ok_IBoth {f f1 B D : Addr} {fd fd1 : FuncData} (F : Fun K "__init__" "Both.__init__" sIBoth f fd) (T : C2 K B) (M : CallX P w K mg base 13 "check_pair" ["one", "other"] (spChkP C D) f1 fd1) : FnOk P w K mg base (L2.CX P w) 14 f fd ["self", "one", "other"] (spInitP C B D) := by
  refine F.okX scIBoth (fun vs H Q E h => ?_) (fun cdv A outer s H vs Q E hr h => ?_)
  · obtain ⟨a, dx, u, v, rfl, _⟩ := h
    rfl
  · obtain ⟨a, dx, u, v, rfl, ha, tw⟩ := h
    refine ⟨_, pss_cons (by exact (ps_expr (pe_call M.ok hr rfl M.m M.k M.b .nil (passes_call (takes_of rfl rfl rfl rfl) (fun _ _ _ _ h => h)) (pa_cons (pv 1) (pa_cons (pv 2) pa_nil))))) (pss_cons (by exact (ps_fld (pv 0) (pv 1) rfl)) (pss_one (by exact (ps_fld (pv 0) (pv 2) rfl)))), ?_⟩
    refine ⟨_, rfl, _, rfl, u, v, rfl, tw.imp fun q H1 s1 => ⟨_, rfl, _, rfl, a, B, dx, [], rfl, s1 _ _ ha, T.cls, T.one, by decide, ?_⟩⟩
    refine ⟨_, rfl, _, rfl, a, B, dx, _, rfl, upd_same, T.cls, T.oth, (by show 1 < 1000; decide), ?_⟩
    rw [upd_upd]
    exact q _ upd_same (But.same_put s1)
abbrev sIEither : Stmt := cb 25 0
theorem scIEither : FnScope ["self", "one", "other"] ["self", "one", "other"] (defScope sIEither) := ⟨rfl, rfl, rfl, by decide +kernel, rfl, by decide +kernel, by decide +kernel⟩
theorem ok_IEither {f f1 B D : Addr} {fd fd1 : FuncData} (F : Fun K "__init__" "Either.__init__" sIEither f fd) (T : C2 K B) (M : CallX P w K mg base 13 "check_pair" ["one", "other"] (spChkP C D) f1 fd1) : FnOk P w K mg base (L2.CX P w) 14 f fd ["self", "one", "other"] (spInitP C B D) := by
  refine F.okX scIEither (fun vs H Q E h => ?_) (fun cdv A outer s H vs Q E hr h => ?_)
  · obtain ⟨a, dx, u, v, rfl, _⟩ := h
    rfl
  · obtain ⟨a, dx, u, v, rfl, ha, tw⟩ := h
    refine ⟨_, pss_cons (by exact (ps_expr (pe_call M.ok hr rfl M.m M.k M.b .nil (passes_call (takes_of rfl rfl rfl rfl) (fun _ _ _ _ h => h)) (pa_cons (pv 1) (pa_cons (pv 2) pa_nil))))) (pss_cons (by exact (ps_fld (pv 0) (pv 1) rfl)) (pss_one (by exact (ps_fld (pv 0) (pv 2) rfl)))), ?_⟩
    refine ⟨_, rfl, _, rfl, u, v, rfl, tw.imp fun q H1 s1 => ⟨_, rfl, _, rfl, a, B, dx, [], rfl, s1 _ _ ha, T.cls, T.one, by decide, ?_⟩⟩
    refine ⟨_, rfl, _, rfl, a, B, dx, _, rfl, upd_same, T.cls, T.oth, (by show 1 < 1000; decide), ?_⟩
    rw [upd_upd]
    exact q _ upd_same (But.same_put s1)
end
end LA
end
section
set_option Elab.async false
set_option linter.all false
set_option maxRecDepth 100000
set_option maxHeartbeats 4100000
namespace XO
open PySem PySem.Spec PyProof.Rows L2
/-! ### == and != by an own __eq__ that gives either truth -/
section
variable {X : Cx} {CX : CXT} {n : Nat} {C f : Addr} {fd : FuncData} {ps : List Str} {sp : Sp} {E : XK}
/-- the own __eq__ is called, from within -/
theorem eq_runs {A : Around} {pins : List (Addr × Obj)} {s : Shared} {σ : L2.St} {H : Hp} {a : Addr} {y : V} {v : Value} {q : Bool → Hp → Prop} {R : Value → Shared → Prop} (F : FnOk X.prog X.w X.K X.mg X.base CX n f fd ps sp) (hb : Binds X.K fd ps []) (hx : Passes CX X E)
    (room : Room n A) (fr : A.frames = X.A.frames) (I : Inv X pins σ H s) (ry : RelV y v) (want : sp [.ref a, y] H (fun z H' => ∃ b, z = .bl b ∧ q b H') E) (fin : ∀ b s' H', Inv X pins σ H' s' → q b H' → R (.bool b) s') :
    wpAny (model X.prog X.w) A (call (.ref f) [.ref a, v]) R X.xe s := by
  have e0 : Env0 X.prog X.w X.K X.mg X.base A X.stack s H := by
    have e := I.env0
    exact ⟨by rw [fr]; exact e.frames, e.mod, e.bs, e.bsz, e.funs, e.frf, e.hok, e.bare⟩
  have hl := F.len _ _ _ _ want
  have r2 : Vals [V.ref a, y] [Value.ref a, v] := .cons rfl (.cons ry .nil)
  refine wpAny_call (codeAny_mono (F.run A X.stack s H ⟨[.ref a, v], []⟩ [.ref a, v] [.ref a, y] _ E room e0 (by
    have := hb s [.ref a, v] I.kIn (by simpa using hl)
    simpa using this) r2 want) fun r s' res => ?_)
  cases r with
  | error e => exact hx pins σ H s e s' I res
  | ok fl =>
    cases fl with
    | ret w =>
      obtain ⟨z, H', I', rz, b, rfl, ez⟩ := I.after res
      obtain rfl : w = Value.bool b := rz
      exact fin b s' H' I' ez
    | next => exact False.elim res
    | brk => exact False.elim res
    | cont => exact False.elim res
/-- the reading of x == y and of x != y, x an instance of the class at C -/
def rOwnE (K : PySem.W.Frag) (C : Addr) (sp : Sp) (E : XK) (neg : Bool) : R2 := fun x y H Q => ∃ a dx fs t, x = .ref a ∧ H a = some (.ins C dx fs) ∧ TyX K H y t ∧ PySem.W.notFirst K C t = true ∧ sp [.ref a, y] H (fun z H' => ∃ b, z = .bl b ∧ Q (.bl (b != neg)) H') E
theorem op_own (F : FnOk X.prog X.w X.K X.mg X.base CX n f fd ps sp) (hs : PySem.W.findIn X.K (.ref C) "__eq__" = some (some (.ref f))) (hf : PySem.W.isFn X.K (.ref f) = true) (hb : Binds X.K fd ps []) (hx : Passes CX X E) (room : Room n X.A) :
    OpR X (compareOp .Eq) (rOwnE X.K C sp E false) := by
  intro pins s σ H x y v u Q I rx ry want
  obtain ⟨a, dx, fs, t, rfl, ha, ty, nf, rd⟩ := want
  cases rx
  obtain ⟨mA, J, _⟩ := ins_get I.hok ha
  obtain ⟨od, J, _⟩ := J.look
  obtain ⟨m, hF⟩ := I.fr
  obtain ⟨Pz, Z, pz, _⟩ := kit_of I ry ty
  show wpAny (model X.prog X.w) X.A (richCompare .Eq (.ref a) u) (EP X pins σ Q) X.xe s
  refine PySem.W.cmp_K (op := .Eq) (tb := t) room.units0 hF I.ok.mod.kin J (Z.ty _ _ I.kIn pz) nf hs hf ?_
  refine eq_runs F hb hx room rfl I ry rd fun b s' H' I' q => ?_
  refine ⟨.bl b, H', I', rfl, ?_⟩
  have e : (b != false) = b := by cases b <;> rfl
  rw [← e]
  exact q
theorem op_ownNe (F : FnOk X.prog X.w X.K X.mg X.base CX n f fd ps sp) (hs : PySem.W.findIn X.K (.ref C) "__eq__" = some (some (.ref f))) (hf : PySem.W.isFn X.K (.ref f) = true) (hb : Binds X.K fd ps []) (hx : Passes CX X E) (room : Room (n + 1) X.A)
    (ne : PySem.W.findIn X.K (.ref C) "__ne__" = some (some (.builtin "object.__ne__"))) (ob : PySem.W.mroIn X.K C (.type "object") = some true) : OpR X (compareOp .NotEq) (rOwnE X.K C sp E true) := by
  intro pins s σ H x y v u Q I rx ry want
  obtain ⟨a, dx, fs, t, rfl, ha, ty, nf, rd⟩ := want
  cases rx
  obtain ⟨mA, J, _⟩ := ins_get I.hok ha
  obtain ⟨od, J, _⟩ := J.look
  obtain ⟨Pz, Z, pz, _⟩ := kit_of I ry ty
  have kI := I.kIn
  have L0 : PySem.W.Looks (model X.prog X.w) s.heap (typeOf (.ref a)) (.ref C) := J.type
  have Lb := Z.ty (model X.prog X.w) _ kI pz
  have sub : PySem.W.Looks (model X.prog X.w) s.heap (isInstance (.ref a) (.type "object")) true := L0.andThen (PySem.W.looks_mroIn kI ob)
  have slot : wpAny (model X.prog X.w) X.A (call (.builtin "object.__ne__") [.ref a, u]) (fun z s' => ∃ b, z = Value.bool b ∧ ∃ H', Inv X pins σ H' s' ∧ Q (.bl b) H') X.xe s := by
    refine wpAny_call (codeAny_call_builtin PySem.F.cmp_object.ne.plain PySem.F.cmpEntry_ne (PySem.W.check_slot PySem.F.cmpKind_ne PySem.F.cmpSplit_ne sub (PySem.F.cmpArgs_ne _ _) ?_))
    have own : wpAny (model X.prog X.w) X.A.in1 (callSpecialIfBound? (.ref a) (Str.ofString "__eq__") [u]) (fun z s' => ∃ b, z = some (Value.bool b) ∧ ∃ H', Inv X pins σ H' s' ∧ Q (.bl (b != true)) H') X.xe s := by
      refine PySem.W.ifBound_K kI J hs hf (eq_runs F hb hx room.in1 rfl I ry rd fun b s' H' I' q => ⟨b, rfl, H', I', q⟩)
    unfold Builtin.«object.__ne__»
    refine wpAny_bind (wpAny_of_eq (a := ((Value.ref a : Value), [u])) (by first | rfl | (simp only [slotArgs]; rfl)) ?_)
    refine wpAny_bind (wpAny_cRoomFor room.in1.units0 ?_)
    refine wpAny_bind (wpAny_mono own (fun z s' hz => ?_) fun _ _ e => e)
    obtain ⟨b, rfl, H', I', q⟩ := hz
    refine wpAny_bind (wpAny_truthy_bool ?_)
    refine wpAny_pure ?_
    refine ⟨!b, rfl, H', I', ?_⟩
    have e : (b != true) = !b := by cases b <;> rfl
    rw [← e]
    exact q
  have one : wpAny (model X.prog X.w) X.A (tryCompare (.ref a) "__ne__" u) (fun z s' => ∃ b, z = some (Value.bool b) ∧ ∃ H', Inv X pins σ H' s' ∧ Q (.bl b) H') X.xe s := by
    unfold tryCompare
    have got : wpAny (model X.prog X.w) X.A (callSpecialIfBound? (.ref a) "__ne__" [u]) (fun z s' => ∃ b, z = some (Value.bool b) ∧ ∃ H', Inv X pins σ H' s' ∧ Q (.bl b) H') X.xe s := by
      simp only [callSpecialIfBound?, bindSpecialIfBound?]
      refine wpAny_holding (wpAny_bind (wpAny_bind (wpAny_bind (L0.here ((PySem.W.looks_findIn kI ne).here ?_)))))
      refine wpAny_bind (wpAny_askSetting (wpAny_ite ?_))
      have fin : wpAny (model X.prog X.w) X.A (call (.builtin "object.__ne__") ([.ref a] ++ [u]) >>= fun v => pure (some v)) (fun z s' => ∃ b, z = some (Value.bool b) ∧ ∃ H', Inv X pins σ H' s' ∧ Q (.bl b) H') X.xe s :=
        wpAny_bind (wpAny_mono slot (fun z s' hz => by
          obtain ⟨b, rfl, k⟩ := hz
          exact wpAny_pure ⟨b, rfl, k⟩) fun _ _ e => e)
      split
      · rw [PySem.F.cmp_object.ne.bind]
        exact wpAny_bind (wpAny_pure (wpAny_pure (by exact fin)))
      · rw [PySem.F.cmp_object.ne.bind]
        exact wpAny_tryCatch (wpAny_bind (wpAny_pure (wpAny_pure (by exact fin))))
    refine wpAny_bind (wpAny_mono got (fun z s' hz => ?_) fun _ _ e => e)
    obtain ⟨b, rfl, k⟩ := hz
    exact wpAny_pure ⟨b, rfl, k⟩
  show wpAny (model X.prog X.w) X.A (richCompare .NotEq (.ref a) u) (EP X pins σ Q) X.xe s
  unfold richCompare
  simp only [oneThing_ref]
  refine wpAny_holding (wpAny_bind (wpAny_cRoomFor room.units0 ?_))
  refine wpAny_bind (L0.here (wpAny_bind (Lb.here ?_)))
  have last : wpAny (model X.prog X.w) X.A (tryCompare (.ref a) "__ne__" u) (fun r s' => ∃ v, r = some v ∧ EP X pins σ Q v s') X.xe s := wpAny_mono one (fun z s' hz => by
    obtain ⟨b, rfl, H', I', q⟩ := hz
    exact ⟨_, rfl, .bl b, H', I', rfl, q⟩) fun _ _ e => e
  split
  · rename_i q
    have e : PySem.W.subIn X.K t (.ref C) = some false := by
      rcases Bool.or_eq_true_iff.mp nf with e | e
      · rw [beq_iff_eq.mp e] at q
        simp at q
      · exact beq_iff_eq.mp e
    refine wpAny_bind ((PySem.W.looks_subIn kI e).here ?_)
    simp only [Bool.false_eq_true, if_false]
    refine wpAny_bind (wpAny_mono last (fun r s' z => ?_) fun _ _ e => e)
    obtain ⟨v, rfl, hq⟩ := z
    exact wpAny_pure hq
  · refine wpAny_bind (wpAny_pure ?_)
    simp only [Bool.false_eq_true, if_false]
    refine wpAny_bind (wpAny_mono last (fun r s' z => ?_) fun _ _ e => e)
    obtain ⟨v, rfl, hq⟩ := z
    exact wpAny_pure hq
end
end XO
end
section
set_option Elab.async false
set_option linter.all false
set_option maxRecDepth 100000
set_option maxHeartbeats 4100000
namespace LA
open PySem L2 XS XT XK XO
def geq : G → G → Bool
  | .leaf s z, .leaf s' z' => decide (s = s') && decide (V.str z = V.str z')
  | .fails g, .fails h => geq g h
  | .pair s a b, .pair s' a' b' => decide (s = s') && (geq a a' && geq b b')
  | _, _ => false
/-- simple, or with simple ones right within -/
def G.low : G → Bool
  | .leaf _ _ => true
  | .fails (.leaf _ _) => true
  | .pair _ (.leaf _ _) (.leaf _ _) => true
  | _ => false
theorem geq_cls : ∀ {g h : G}, g.cls ≠ h.cls → geq g h = false
  | .leaf s z, .leaf s' z', n => by
    show (decide (s = s') && _) = false
    rw [decide_eq_false (show ¬ s = s' from n)]
    rfl
  | .fails g, .fails h, n => absurd rfl n
  | .pair s a b, .pair s' a' b', n => by
    show (decide (s = s') && _) = false
    rw [decide_eq_false (show ¬ s = s' from fun e => n (by show 6 + s = 6 + s'; rw [e]))]
    rfl
  | .leaf _ _, .fails _, _ => rfl
  | .leaf _ _, .pair _ _ _, _ => rfl
  | .fails _, .leaf _ _, _ => rfl
  | .fails _, .pair _ _ _, _ => rfl
  | .pair _ _ _, .leaf _ _, _ => rfl
  | .pair _ _ _, .fails _, _ => rfl
/-- what a test is held against, and the answer -/
def Oth (C : Nat → Addr) (H : Hp) (g : G) (y : V) (r : Bool) : Prop := (AnyV H y ∧ r = false) ∨ ∃ h, TA C H h y ∧ h.low = true ∧ r = geq g h
theorem Oth.ty {K : PySem.W.Frag} {C : Nat → Addr} {H : Hp} {g : G} {y : V} {r : Bool} (k0 : KC K C) (o : Oth C H g y r) : ∃ t, TyX K H y t ∧ ∀ i, i < 8 → (PySem.W.kitOne K t (.ref (C i)) = some false ∧ (i = g.cls → r = false)) ∨ (PySem.W.kitOne K t (.ref (C i)) = some true ∧ ∃ h, TA C H h y ∧ h.cls = i ∧ h.low = true ∧ r = geq g h) := by
  rcases o with ⟨a, rfl⟩ | ⟨h, th, lo, rfl⟩
  · obtain ⟨n, hn, ty⟩ := a.cls (K := K)
    refine ⟨_, ty, fun i hi => .inl ⟨?_, fun _ => rfl⟩⟩
    obtain ⟨l, hl⟩ := tyN_mro n hn
    exact kit_bi k0 hl hi
  · refine ⟨_, th.ty k0, fun i hi => ?_⟩
    have k := k0.kit _ i th.at_.1 hi
    by_cases e : h.cls = i
    · rw [decide_eq_true e] at k
      exact .inr ⟨k, h, th, e, lo, rfl⟩
    · rw [decide_eq_false e] at k
      exact .inl ⟨k, fun e2 => geq_cls fun z => e (by rw [← z, e2])⟩
def spEqT (C : Nat → Addr) (i : Nat) : Sp := fun vs H Q _ => ∃ (g : G) (x y : V) (r : Bool), vs = [x, y] ∧ TA C H g x ∧ g.cls = i ∧ g.low = true ∧ Oth C H g y r ∧ ∀ H', Same H H' → Q (.bl r) H'
section
variable {P : Program} {w : World} {K : PySem.W.Frag} {mg : Str → Option Value} {base : Heap} {C : Nat → Addr}
theorem leaf_of {g : G} {i : Nat} (e : g.cls = i) (h : i < 5) : ∃ z, g = .leaf i z := by
  cases g with
  | leaf s z => exact ⟨z, by rw [show s = i from e]⟩
  | fails g => exact absurd (show 5 = i from e) (by omega)
  | pair s a b => exact absurd (show 6 + s = i from e) (by omega)
abbrev sQHas : Stmt := cb 18 3
theorem scQHas : FnScope ["self", "other"] ["self", "other"] (defScope sQHas) := ⟨rfl, rfl, rfl, by decide +kernel, rfl, by decide +kernel, by decide +kernel⟩
theorem ok_QHas {f : Addr} {fd : FuncData} (F : Fun K "__eq__" "Has.__eq__" sQHas f fd) (N : NamT mg C) (k0 : KC K C) (T : C1 K (C 0) "_word") : FnOk P w K mg base CX0 1 f fd ["self", "other"] (spEqT C 0) := by
  refine F.ok scQHas (fun vs H Q E h => ?_) (fun cdv A outer s H vs Q E hr h => ?_)
  · obtain ⟨g, x, y, r, rfl, _⟩ := h
    rfl
  · obtain ⟨g, x, y, r, rfl, tg, gc, gl, ot, q⟩ := h
    refine ⟨_, pss_one (by exact (ps_ret (pe_and (pe_callB call_isi (by rfl) N.isM (by decide +kernel) (pa_cons (pv 1) (pa_cons (pe_glob (v := .ref (C 0)) rfl N.n0 rfl) pa_nil))) (pe_one (pe_cmpR op_eq (pe_fld (pv 0) rfl) (pe_fld (pv 1) rfl) (nomark _)))))), ?_⟩
    obtain ⟨t, ty, key⟩ := ot.ty k0
    obtain ⟨z, rfl⟩ := leaf_of gc (by decide)
    obtain ⟨_, a, dx, rfl, ha⟩ := tg
    rcases key 0 (by decide) with ⟨no, nr⟩ | ⟨yes, h, th, hc, _, rfl⟩
    · refine ⟨_, rfl, _, _, _, _, _, rfl, .own (C 0), ty, no, _, rfl, iteF ?_⟩
      rw [nr rfl] at q
      exact q H (fun _ _ e => e)
    · refine ⟨_, rfl, _, _, _, _, _, rfl, .own (C 0), ty, yes, _, rfl, iteT ?_⟩
      obtain ⟨z2, rfl⟩ := leaf_of hc (by decide)
      obtain ⟨_, b, dy, rfl, hb⟩ := th
      refine ⟨_, rfl, a, C 0, dx, _, _, rfl, ha, T.cls, T.no, look1, _, rfl, b, C 0, dy, _, _, rfl, hb, T.cls, T.no, look1, rfl, ?_⟩
      have e : geq (.leaf 0 z) (.leaf 0 z2) = decide (V.str z = V.str z2) := by
        show (decide ((0 : Nat) = 0) && _) = _
        rw [decide_eq_true rfl, Bool.true_and]
      rw [e] at q
      exact q H (fun _ _ e => e)
abbrev sQBegins : Stmt := cb 19 3
theorem scQBegins : FnScope ["self", "other"] ["self", "other"] (defScope sQBegins) := ⟨rfl, rfl, rfl, by decide +kernel, rfl, by decide +kernel, by decide +kernel⟩
theorem ok_QBegins {f : Addr} {fd : FuncData} (F : Fun K "__eq__" "Begins.__eq__" sQBegins f fd) (N : NamT mg C) (k0 : KC K C) (T : C1 K (C 1) "_word") : FnOk P w K mg base CX0 1 f fd ["self", "other"] (spEqT C 1) := by
  refine F.ok scQBegins (fun vs H Q E h => ?_) (fun cdv A outer s H vs Q E hr h => ?_)
  · obtain ⟨g, x, y, r, rfl, _⟩ := h
    rfl
  · obtain ⟨g, x, y, r, rfl, tg, gc, gl, ot, q⟩ := h
    refine ⟨_, pss_one (by exact (ps_ret (pe_and (pe_callB call_isi (by rfl) N.isM (by decide +kernel) (pa_cons (pv 1) (pa_cons (pe_glob (v := .ref (C 1)) rfl N.n1 rfl) pa_nil))) (pe_one (pe_cmpR op_eq (pe_fld (pv 0) rfl) (pe_fld (pv 1) rfl) (nomark _)))))), ?_⟩
    obtain ⟨t, ty, key⟩ := ot.ty k0
    obtain ⟨z, rfl⟩ := leaf_of gc (by decide)
    obtain ⟨_, a, dx, rfl, ha⟩ := tg
    rcases key 1 (by decide) with ⟨no, nr⟩ | ⟨yes, h, th, hc, _, rfl⟩
    · refine ⟨_, rfl, _, _, _, _, _, rfl, .own (C 1), ty, no, _, rfl, iteF ?_⟩
      rw [nr rfl] at q
      exact q H (fun _ _ e => e)
    · refine ⟨_, rfl, _, _, _, _, _, rfl, .own (C 1), ty, yes, _, rfl, iteT ?_⟩
      obtain ⟨z2, rfl⟩ := leaf_of hc (by decide)
      obtain ⟨_, b, dy, rfl, hb⟩ := th
      refine ⟨_, rfl, a, C 1, dx, _, _, rfl, ha, T.cls, T.no, look1, _, rfl, b, C 1, dy, _, _, rfl, hb, T.cls, T.no, look1, rfl, ?_⟩
      have e : geq (.leaf 1 z) (.leaf 1 z2) = decide (V.str z = V.str z2) := by
        show (decide ((1 : Nat) = 1) && _) = _
        rw [decide_eq_true rfl, Bool.true_and]
      rw [e] at q
      exact q H (fun _ _ e => e)
abbrev sQEnds : Stmt := cb 20 3
theorem scQEnds : FnScope ["self", "other"] ["self", "other"] (defScope sQEnds) := ⟨rfl, rfl, rfl, by decide +kernel, rfl, by decide +kernel, by decide +kernel⟩
theorem ok_QEnds {f : Addr} {fd : FuncData} (F : Fun K "__eq__" "Ends.__eq__" sQEnds f fd) (N : NamT mg C) (k0 : KC K C) (T : C1 K (C 2) "_word") : FnOk P w K mg base CX0 1 f fd ["self", "other"] (spEqT C 2) := by
  refine F.ok scQEnds (fun vs H Q E h => ?_) (fun cdv A outer s H vs Q E hr h => ?_)
  · obtain ⟨g, x, y, r, rfl, _⟩ := h
    rfl
  · obtain ⟨g, x, y, r, rfl, tg, gc, gl, ot, q⟩ := h
    refine ⟨_, pss_one (by exact (ps_ret (pe_and (pe_callB call_isi (by rfl) N.isM (by decide +kernel) (pa_cons (pv 1) (pa_cons (pe_glob (v := .ref (C 2)) rfl N.n2 rfl) pa_nil))) (pe_one (pe_cmpR op_eq (pe_fld (pv 0) rfl) (pe_fld (pv 1) rfl) (nomark _)))))), ?_⟩
    obtain ⟨t, ty, key⟩ := ot.ty k0
    obtain ⟨z, rfl⟩ := leaf_of gc (by decide)
    obtain ⟨_, a, dx, rfl, ha⟩ := tg
    rcases key 2 (by decide) with ⟨no, nr⟩ | ⟨yes, h, th, hc, _, rfl⟩
    · refine ⟨_, rfl, _, _, _, _, _, rfl, .own (C 2), ty, no, _, rfl, iteF ?_⟩
      rw [nr rfl] at q
      exact q H (fun _ _ e => e)
    · refine ⟨_, rfl, _, _, _, _, _, rfl, .own (C 2), ty, yes, _, rfl, iteT ?_⟩
      obtain ⟨z2, rfl⟩ := leaf_of hc (by decide)
      obtain ⟨_, b, dy, rfl, hb⟩ := th
      refine ⟨_, rfl, a, C 2, dx, _, _, rfl, ha, T.cls, T.no, look1, _, rfl, b, C 2, dy, _, _, rfl, hb, T.cls, T.no, look1, rfl, ?_⟩
      have e : geq (.leaf 2 z) (.leaf 2 z2) = decide (V.str z = V.str z2) := by
        show (decide ((2 : Nat) = 2) && _) = _
        rw [decide_eq_true rfl, Bool.true_and]
      rw [e] at q
      exact q H (fun _ _ e => e)
abbrev sQIs : Stmt := cb 21 3
theorem scQIs : FnScope ["self", "other"] ["self", "other"] (defScope sQIs) := ⟨rfl, rfl, rfl, by decide +kernel, rfl, by decide +kernel, by decide +kernel⟩
theorem ok_QIs {f : Addr} {fd : FuncData} (F : Fun K "__eq__" "Is.__eq__" sQIs f fd) (N : NamT mg C) (k0 : KC K C) (T : C1 K (C 3) "_line") : FnOk P w K mg base CX0 1 f fd ["self", "other"] (spEqT C 3) := by
  refine F.ok scQIs (fun vs H Q E h => ?_) (fun cdv A outer s H vs Q E hr h => ?_)
  · obtain ⟨g, x, y, r, rfl, _⟩ := h
    rfl
  · obtain ⟨g, x, y, r, rfl, tg, gc, gl, ot, q⟩ := h
    refine ⟨_, pss_one (by exact (ps_ret (pe_and (pe_callB call_isi (by rfl) N.isM (by decide +kernel) (pa_cons (pv 1) (pa_cons (pe_glob (v := .ref (C 3)) rfl N.n3 rfl) pa_nil))) (pe_one (pe_cmpR op_eq (pe_fld (pv 0) rfl) (pe_fld (pv 1) rfl) (nomark _)))))), ?_⟩
    obtain ⟨t, ty, key⟩ := ot.ty k0
    obtain ⟨z, rfl⟩ := leaf_of gc (by decide)
    obtain ⟨_, a, dx, rfl, ha⟩ := tg
    rcases key 3 (by decide) with ⟨no, nr⟩ | ⟨yes, h, th, hc, _, rfl⟩
    · refine ⟨_, rfl, _, _, _, _, _, rfl, .own (C 3), ty, no, _, rfl, iteF ?_⟩
      rw [nr rfl] at q
      exact q H (fun _ _ e => e)
    · refine ⟨_, rfl, _, _, _, _, _, rfl, .own (C 3), ty, yes, _, rfl, iteT ?_⟩
      obtain ⟨z2, rfl⟩ := leaf_of hc (by decide)
      obtain ⟨_, b, dy, rfl, hb⟩ := th
      refine ⟨_, rfl, a, C 3, dx, _, _, rfl, ha, T.cls, T.no, look1, _, rfl, b, C 3, dy, _, _, rfl, hb, T.cls, T.no, look1, rfl, ?_⟩
      have e : geq (.leaf 3 z) (.leaf 3 z2) = decide (V.str z = V.str z2) := by
        show (decide ((3 : Nat) = 3) && _) = _
        rw [decide_eq_true rfl, Bool.true_and]
      rw [e] at q
      exact q H (fun _ _ e => e)
abbrev sQOn : Stmt := cb 22 3
theorem scQOn : FnScope ["self", "other"] ["self", "other"] (defScope sQOn) := ⟨rfl, rfl, rfl, by decide +kernel, rfl, by decide +kernel, by decide +kernel⟩
theorem ok_QOn {f : Addr} {fd : FuncData} (F : Fun K "__eq__" "Only.__eq__" sQOn f fd) (N : NamT mg C) (k0 : KC K C) (T : C1 K (C 4) "_letters") : FnOk P w K mg base CX0 1 f fd ["self", "other"] (spEqT C 4) := by
  refine F.ok scQOn (fun vs H Q E h => ?_) (fun cdv A outer s H vs Q E hr h => ?_)
  · obtain ⟨g, x, y, r, rfl, _⟩ := h
    rfl
  · obtain ⟨g, x, y, r, rfl, tg, gc, gl, ot, q⟩ := h
    refine ⟨_, pss_one (by exact (ps_ret (pe_and (pe_callB call_isi (by rfl) N.isM (by decide +kernel) (pa_cons (pv 1) (pa_cons (pe_glob (v := .ref (C 4)) rfl N.n4 rfl) pa_nil))) (pe_one (pe_cmpR op_eq (pe_fld (pv 0) rfl) (pe_fld (pv 1) rfl) (nomark _)))))), ?_⟩
    obtain ⟨t, ty, key⟩ := ot.ty k0
    obtain ⟨z, rfl⟩ := leaf_of gc (by decide)
    obtain ⟨_, a, dx, rfl, ha⟩ := tg
    rcases key 4 (by decide) with ⟨no, nr⟩ | ⟨yes, h, th, hc, _, rfl⟩
    · refine ⟨_, rfl, _, _, _, _, _, rfl, .own (C 4), ty, no, _, rfl, iteF ?_⟩
      rw [nr rfl] at q
      exact q H (fun _ _ e => e)
    · refine ⟨_, rfl, _, _, _, _, _, rfl, .own (C 4), ty, yes, _, rfl, iteT ?_⟩
      obtain ⟨z2, rfl⟩ := leaf_of hc (by decide)
      obtain ⟨_, b, dy, rfl, hb⟩ := th
      refine ⟨_, rfl, a, C 4, dx, _, _, rfl, ha, T.cls, T.no, look1, _, rfl, b, C 4, dy, _, _, rfl, hb, T.cls, T.no, look1, rfl, ?_⟩
      have e : geq (.leaf 4 z) (.leaf 4 z2) = decide (V.str z = V.str z2) := by
        show (decide ((4 : Nat) = 4) && _) = _
        rw [decide_eq_true rfl, Bool.true_and]
      rw [e] at q
      exact q H (fun _ _ e => e)
end
end LA
end
section
set_option Elab.async false
set_option linter.all false
set_option maxRecDepth 100000
set_option maxHeartbeats 4100000
namespace LA
open PySem L2 XS XT XK XO
/-- one of several readings of an operator -/
theorem op_any {X : Cx} {op : Value → Value → Sem Value} {m : Nat} {r : Nat → R2} (h : ∀ i, i < m → OpR X op (r i)) : OpR X op (fun x y H Q => ∃ i, i < m ∧ r i x y H Q) := by
  intro pins s σ H x y v u Q I rx ry ⟨i, hi, w⟩
  exact h i hi pins s σ H x y v u Q I rx ry w
theorem nf_kit {K : PySem.W.Frag} {C : Addr} {t : Value} (h : PySem.W.kitOne K t (.ref C) = some false) : PySem.W.notFirst K C t = true := by
  unfold PySem.W.kitOne at h
  split at h
  · cases h
  · unfold PySem.W.kitCls at h
    dsimp only at h
    split at h
    · unfold PySem.W.notFirst
      rw [h]
      simp
    · cases h
theorem Oth.nf {K : PySem.W.Frag} {C : Nat → Addr} {H : Hp} {g : G} {y : V} {r : Bool} (k0 : KC K C) (o : Oth C H g y r) : ∃ t, TyX K H y t ∧ ∀ i, i < 8 → PySem.W.notFirst K (C i) t = true := by
  rcases o with ⟨a, rfl⟩ | ⟨h, th, lo, rfl⟩
  · obtain ⟨n, hn, ty⟩ := a.cls (K := K)
    refine ⟨_, ty, fun i hi => nf_kit ?_⟩
    obtain ⟨l, hl⟩ := tyN_mro n hn
    exact kit_bi k0 hl hi
  · refine ⟨_, th.ty k0, fun i hi => ?_⟩
    by_cases e : h.cls = i
    · rw [e]
      unfold PySem.W.notFirst
      simp
    · have k := k0.kit _ i th.at_.1 hi
      rw [decide_eq_false e] at k
      exact nf_kit k
theorem Oth.same {C : Nat → Addr} {H H' : Hp} {g : G} {y : V} {r : Bool} (s : Same H H') (o : Oth C H g y r) : Oth C H' g y r := by
  rcases o with ⟨h, e⟩ | ⟨h, th, e⟩
  · exact .inl ⟨h.same s, e⟩
  · exact .inr ⟨h, th.same s, e⟩
theorem low_pair {g : G} {n s : Nat} (lo : g.low = true) (n8 : g.cls < 8) (n6 : n = 6 + s) (c : g.cls = n) (l5 : ∀ z y, g = .leaf z y → z < 5) : ∃ s1 z1 s2 z2, g = .pair s (.leaf s1 z1) (.leaf s2 z2) := by
  cases g with
  | leaf z y =>
    have := l5 z y rfl
    have e : z = n := c
    omega
  | fails g =>
    have e : 5 = n := c
    omega
  | pair s' a b =>
    have e : 6 + s' = n := c
    obtain rfl : s' = s := by omega
    cases a with
    | leaf s1 z1 =>
      cases b with
      | leaf s2 z2 => exact ⟨s1, z1, s2, z2, rfl⟩
      | fails b => cases (show false = true from lo)
      | pair s2 b c => cases (show false = true from lo)
    | fails a => cases (show false = true from lo)
    | pair s2 a c => cases (show false = true from lo)
theorem TA.five {C : Nat → Addr} {H : Hp} {g : G} {x : V} (t : TA C H g x) : ∀ z y, g = .leaf z y → z < 5 := fun z y e => by
  subst e
  exact t.1
theorem two1 {u v : V} : ([("_one", u), ("_other", v)] : List (Str × V)).lookup ("_one" : Str) = some u := by
  simp
theorem two2 {u v : V} : ([("_one", u), ("_other", v)] : List (Str × V)).lookup ("_other" : Str) = some v := rfl
/-- the own __eq__ of the i-th class -/
structure EqAt (P : Program) (w : World) (K : PySem.W.Frag) (mg : Str → Option Value) (base : Heap) (C : Nat → Addr) (n i : Nat) (f : Addr) (fd : FuncData) : Prop where
  ok : FnOk P w K mg base CX0 n f fd ["self", "other"] (spEqT C i)
  at_ : PySem.W.findIn K (.ref (C i)) "__eq__" = some (some (.ref f))
  fn : PySem.W.isFn K (.ref f) = true
  b : Binds K fd ["self", "other"] []
  ne : PySem.W.findIn K (.ref (C i)) "__ne__" = some (some (.builtin "object.__ne__"))
/-- the reading of x == y, x != y for tests of the first m classes -/
def rEqT (C : Nat → Addr) (m : Nat) (neg : Bool) : R2 := fun x y H Q => ∃ g r, TA C H g x ∧ g.cls < m ∧ g.low = true ∧ Oth C H g y r ∧ ∀ H', Same H H' → Q (.bl (r != neg)) H'
theorem op_t {X : Cx} {C : Nat → Addr} {n m : Nat} {f : Nat → Addr} {fd : Nat → FuncData} (hm : m ≤ 8) (k0 : KC X.K C) (M : ∀ i, i < m → EqAt X.prog X.w X.K X.mg X.base C n i (f i) (fd i)) (room : Room n X.A) : OpR X (compareOp .Eq) (rEqT C m false) := by
  intro pins s σ H x y v u Q I rx ry want
  obtain ⟨g, r, tg, gc, gl, ot, q⟩ := want
  obtain ⟨t, ty, nf⟩ := ot.nf k0
  obtain ⟨g8, a, dx, fs, rfl, ha⟩ := tg.at_
  have F := M _ gc
  exact op_own F.ok F.at_ F.fn F.b pass0 room pins s σ H (.ref a) y v u Q I rx ry ⟨a, dx, fs, t, rfl, ha, ty, nf _ g8, g, .ref a, y, r, rfl, tg, rfl, gl, ot, fun H' sm => ⟨r, rfl, q H' sm⟩⟩
theorem op_tNe {X : Cx} {C : Nat → Addr} {n m : Nat} {f : Nat → Addr} {fd : Nat → FuncData} (hm : m ≤ 8) (k0 : KC X.K C) (M : ∀ i, i < m → EqAt X.prog X.w X.K X.mg X.base C n i (f i) (fd i)) (room : Room (n + 1) X.A) : OpR X (compareOp .NotEq) (rEqT C m true) := by
  intro pins s σ H x y v u Q I rx ry want
  obtain ⟨g, r, tg, gc, gl, ot, q⟩ := want
  obtain ⟨t, ty, nf⟩ := ot.nf k0
  obtain ⟨g8, a, dx, fs, rfl, ha⟩ := tg.at_
  have F := M _ gc
  exact op_ownNe F.ok F.at_ F.fn F.b pass0 room F.ne (k0.obj _ g8) pins s σ H (.ref a) y v u Q I rx ry ⟨a, dx, fs, t, rfl, ha, ty, nf _ g8, g, .ref a, y, r, rfl, tg, rfl, gl, ot, fun H' sm => ⟨r, rfl, q H' sm⟩⟩
section
variable {P : Program} {w : World} {K : PySem.W.Frag} {mg : Str → Option Value} {base : Heap} {C : Nat → Addr} {fe : Nat → Addr} {fde : Nat → FuncData}
abbrev sQFails : Stmt := cb 23 3
theorem scQFails : FnScope ["self", "other"] ["self", "other"] (defScope sQFails) := ⟨rfl, rfl, rfl, by decide +kernel, rfl, by decide +kernel, by decide +kernel⟩
theorem ok_QFails {f : Addr} {fd : FuncData} (F : Fun K "__eq__" "Fails.__eq__" sQFails f fd) (N : NamT mg C) (k0 : KC K C) (T : C1 K (C 5) "_test") (M : ∀ i, i < 5 → EqAt P w K mg base C 1 i (fe i) (fde i)) : FnOk P w K mg base CX0 2 f fd ["self", "other"] (spEqT C 5) := by
  refine F.ok scQFails (fun vs H Q E h => ?_) (fun cdv A outer s H vs Q E hr h => ?_)
  · obtain ⟨g, x, y, r, rfl, _⟩ := h
    rfl
  · obtain ⟨g, x, y, r, rfl, tg, gc, gl, ot, q⟩ := h
    refine ⟨_, pss_one (by exact (ps_ret (pe_and (pe_callB call_isi (by rfl) N.isM (by decide +kernel) (pa_cons (pv 1) (pa_cons (pe_glob (v := .ref (C 5)) rfl N.n5 rfl) pa_nil))) (pe_one (pe_cmpR (op_t (by decide) k0 M hr) (pe_fld (pv 0) rfl) (pe_fld (pv 1) rfl) (nomark _)))))), ?_⟩
    obtain ⟨t, ty, key⟩ := ot.ty k0
    rcases key 5 (by decide) with ⟨no, nr⟩ | ⟨yes, h, th, hc, hl, rfl⟩
    · refine ⟨_, rfl, _, _, _, _, _, rfl, .own (C 5), ty, no, _, rfl, iteF ?_⟩
      rw [nr gc.symm] at q
      exact q H (fun _ _ e => e)
    · refine ⟨_, rfl, _, _, _, _, _, rfl, .own (C 5), ty, yes, _, rfl, iteT ?_⟩
      match g, h, gc, hc, gl, hl with
      | .fails (.leaf s z), .fails (.leaf s2 z2), _, _, _, _ =>
        obtain ⟨a, dx, u, rfl, ha, hu⟩ := tg
        obtain ⟨b, dy, v, rfl, hb, hv⟩ := th
        refine ⟨_, rfl, a, C 5, dx, _, _, rfl, ha, T.cls, T.no, look1, _, rfl, b, C 5, dy, _, _, rfl, hb, T.cls, T.no, look1, .leaf s z, _, hu, hu.1, rfl, .inr ⟨_, hv, rfl, rfl⟩, fun H' sm => ?_⟩
        have e : (geq (.leaf s z) (.leaf s2 z2) != false) = geq (.fails (.leaf s z)) (.fails (.leaf s2 z2)) := by
          show (geq (.leaf s z) (.leaf s2 z2) != false) = geq (.leaf s z) (.leaf s2 z2)
          cases geq (.leaf s z) (.leaf s2 z2) <;> rfl
        rw [e]
        exact q H' sm
      | .leaf s z, _, gc, _, gl, _ => exact absurd (show s = 5 from gc) (fun z => by have := tg.1; omega)
      | .pair s a b, _, gc, _, _, _ => exact absurd (show 6 + s = 5 from gc) (by omega)
      | .fails _, .leaf s z, _, hc, _, _ => exact absurd (show s = 5 from hc) (fun z => by have := th.1; omega)
      | .fails _, .pair s a b, _, hc, _, _ => exact absurd (show 6 + s = 5 from hc) (by omega)
abbrev sQBoth : Stmt := cb 24 4
theorem scQBoth : FnScope ["self", "other"] ["self", "other"] (defScope sQBoth) := ⟨rfl, rfl, rfl, by decide +kernel, rfl, by decide +kernel, by decide +kernel⟩
theorem ok_QBoth {f : Addr} {fd : FuncData} (F : Fun K "__eq__" "Both.__eq__" sQBoth f fd) (N : NamT mg C) (k0 : KC K C) (T : C2 K (C 6)) (M : ∀ i, i < 5 → EqAt P w K mg base C 1 i (fe i) (fde i)) : FnOk P w K mg base CX0 2 f fd ["self", "other"] (spEqT C 6) := by
  refine F.ok scQBoth (fun vs H Q E h => ?_) (fun cdv A outer s H vs Q E hr h => ?_)
  · obtain ⟨g, x, y, r, rfl, _⟩ := h
    rfl
  · obtain ⟨g, x, y, r, rfl, tg, gc, gl, ot, q⟩ := h
    refine ⟨_, pss_one (by exact (ps_ret (pe_and (pe_callB call_isi (by rfl) N.isM (by decide +kernel) (pa_cons (pv 1) (pa_cons (pe_glob (v := .ref (C 6)) rfl N.n6 rfl) pa_nil))) (pe_and (pe_cmpR (op_t (by decide) k0 M hr) (pe_fld (pv 0) rfl) (pe_fld (pv 1) rfl) (nomark _)) (pe_one (pe_cmpR (op_t (by decide) k0 M hr) (pe_fld (pv 0) rfl) (pe_fld (pv 1) rfl) (nomark _))))))), ?_⟩
    obtain ⟨t, ty, key⟩ := ot.ty k0
    obtain ⟨s1, z1, s2, z2, rfl⟩ := low_pair (s := 0) gl tg.at_.1 rfl gc tg.five
    obtain ⟨_, a, dx, u1, u2, rfl, ha, h1, h2⟩ := tg
    rcases key 6 (by decide) with ⟨no, nr⟩ | ⟨yes, h, th, hc, hl, rfl⟩
    · refine ⟨_, rfl, _, _, _, _, _, rfl, .own (C 6), ty, no, _, rfl, iteF ?_⟩
      rw [nr gc.symm] at q
      exact q H (fun _ _ e => e)
    · refine ⟨_, rfl, _, _, _, _, _, rfl, .own (C 6), ty, yes, _, rfl, iteT ?_⟩
      obtain ⟨t1, y1, t2, y2, rfl⟩ := low_pair (s := 0) hl th.at_.1 rfl hc th.five
      obtain ⟨_, b, dy, v1, v2, rfl, hb, k1, k2⟩ := th
      have e0 : geq (.pair 0 (.leaf s1 z1) (.leaf s2 z2)) (.pair 0 (.leaf t1 y1) (.leaf t2 y2)) = (geq (.leaf s1 z1) (.leaf t1 y1) && geq (.leaf s2 z2) (.leaf t2 y2)) := by
        show (decide ((0 : Nat) = 0) && _) = _
        rw [decide_eq_true rfl, Bool.true_and]
      rw [e0] at q
      generalize e1 : geq (.leaf s1 z1) (.leaf t1 y1) = r1 at q
      generalize e2 : geq (.leaf s2 z2) (.leaf t2 y2) = r2 at q
      refine ⟨_, rfl, a, C 6, dx, _, u1, rfl, ha, T.cls, T.one, two1, _, rfl, b, C 6, dy, _, v1, rfl, hb, T.cls, T.one, two1, .leaf s1 z1, r1, h1, h1.1, rfl, .inr ⟨_, k1, rfl, e1.symm⟩, fun H1 m1 => ⟨_, rfl, ?_⟩⟩
      cases r1 with
      | false => exact iteF (q H1 m1)
      | true =>
        rw [Bool.true_and] at q
        refine iteT ⟨_, rfl, a, C 6, dx, _, u2, rfl, m1 _ _ ha, T.cls, T.oth, two2, _, rfl, b, C 6, dy, _, v2, rfl, m1 _ _ hb, T.cls, T.oth, two2, .leaf s2 z2, r2, h2.same m1, h2.1, rfl, .inr ⟨_, k2.same m1, rfl, e2.symm⟩, fun H2 m2 => ?_⟩
        have e : (r2 != false) = r2 := by cases r2 <;> rfl
        rw [e]
        exact q H2 (m1.trans m2)
abbrev sQEither : Stmt := cb 25 4
theorem scQEither : FnScope ["self", "other"] ["self", "other"] (defScope sQEither) := ⟨rfl, rfl, rfl, by decide +kernel, rfl, by decide +kernel, by decide +kernel⟩
theorem ok_QEither {f : Addr} {fd : FuncData} (F : Fun K "__eq__" "Either.__eq__" sQEither f fd) (N : NamT mg C) (k0 : KC K C) (T : C2 K (C 7)) (M : ∀ i, i < 5 → EqAt P w K mg base C 1 i (fe i) (fde i)) : FnOk P w K mg base CX0 2 f fd ["self", "other"] (spEqT C 7) := by
  refine F.ok scQEither (fun vs H Q E h => ?_) (fun cdv A outer s H vs Q E hr h => ?_)
  · obtain ⟨g, x, y, r, rfl, _⟩ := h
    rfl
  · obtain ⟨g, x, y, r, rfl, tg, gc, gl, ot, q⟩ := h
    refine ⟨_, pss_one (by exact (ps_ret (pe_and (pe_callB call_isi (by rfl) N.isM (by decide +kernel) (pa_cons (pv 1) (pa_cons (pe_glob (v := .ref (C 7)) rfl N.n7 rfl) pa_nil))) (pe_and (pe_cmpR (op_t (by decide) k0 M hr) (pe_fld (pv 0) rfl) (pe_fld (pv 1) rfl) (nomark _)) (pe_one (pe_cmpR (op_t (by decide) k0 M hr) (pe_fld (pv 0) rfl) (pe_fld (pv 1) rfl) (nomark _))))))), ?_⟩
    obtain ⟨t, ty, key⟩ := ot.ty k0
    obtain ⟨s1, z1, s2, z2, rfl⟩ := low_pair (s := 1) gl tg.at_.1 rfl gc tg.five
    obtain ⟨_, a, dx, u1, u2, rfl, ha, h1, h2⟩ := tg
    rcases key 7 (by decide) with ⟨no, nr⟩ | ⟨yes, h, th, hc, hl, rfl⟩
    · refine ⟨_, rfl, _, _, _, _, _, rfl, .own (C 7), ty, no, _, rfl, iteF ?_⟩
      rw [nr gc.symm] at q
      exact q H (fun _ _ e => e)
    · refine ⟨_, rfl, _, _, _, _, _, rfl, .own (C 7), ty, yes, _, rfl, iteT ?_⟩
      obtain ⟨t1, y1, t2, y2, rfl⟩ := low_pair (s := 1) hl th.at_.1 rfl hc th.five
      obtain ⟨_, b, dy, v1, v2, rfl, hb, k1, k2⟩ := th
      have e0 : geq (.pair 1 (.leaf s1 z1) (.leaf s2 z2)) (.pair 1 (.leaf t1 y1) (.leaf t2 y2)) = (geq (.leaf s1 z1) (.leaf t1 y1) && geq (.leaf s2 z2) (.leaf t2 y2)) := by
        show (decide ((1 : Nat) = 1) && _) = _
        rw [decide_eq_true rfl, Bool.true_and]
      rw [e0] at q
      generalize e1 : geq (.leaf s1 z1) (.leaf t1 y1) = r1 at q
      generalize e2 : geq (.leaf s2 z2) (.leaf t2 y2) = r2 at q
      refine ⟨_, rfl, a, C 7, dx, _, u1, rfl, ha, T.cls, T.one, two1, _, rfl, b, C 7, dy, _, v1, rfl, hb, T.cls, T.one, two1, .leaf s1 z1, r1, h1, h1.1, rfl, .inr ⟨_, k1, rfl, e1.symm⟩, fun H1 m1 => ⟨_, rfl, ?_⟩⟩
      cases r1 with
      | false => exact iteF (q H1 m1)
      | true =>
        rw [Bool.true_and] at q
        refine iteT ⟨_, rfl, a, C 7, dx, _, u2, rfl, m1 _ _ ha, T.cls, T.oth, two2, _, rfl, b, C 7, dy, _, v2, rfl, m1 _ _ hb, T.cls, T.oth, two2, .leaf s2 z2, r2, h2.same m1, h2.1, rfl, .inr ⟨_, k2.same m1, rfl, e2.symm⟩, fun H2 m2 => ?_⟩
        have e : (r2 != false) = r2 := by cases r2 <;> rfl
        rw [e]
        exact q H2 (m1.trans m2)
end
end LA
end
section
set_option Elab.async false
set_option linter.all false
set_option maxRecDepth 100000
set_option maxHeartbeats 4100000
namespace LA
open PySem L2 XS XT XK
def nmL : Nat → Str
  | 0 => "has"
  | 1 => "begins"
  | 2 => "ends"
  | 3 => "is"
  | _ => "only"
def nmP : Nat → Str
  | 0 => "both"
  | _ => "either"
/-- the law's tuple of a plain test -/
def GA (H : Hp) : G → V → Prop
  | .leaf s z, v => s < 5 ∧ ∃ p, v = .ref p ∧ H p = some (.tup [.str (nmL s), .str z])
  | .fails g, v => ∃ p u, v = .ref p ∧ H p = some (.tup [.str "fails", u]) ∧ GA H g u
  | .pair s x y, v => s < 2 ∧ ∃ p u1 u2, v = .ref p ∧ H p = some (.tup [.str (nmP s), u1, u2]) ∧ GA H x u1 ∧ GA H y u2
theorem GA.keep {H H' : Hp} (k : ∀ a xs, H a = some (.tup xs) → H' a = some (.tup xs)) : ∀ {g : G} {v : V}, GA H g v → GA H' g v
  | .leaf s z, v, ⟨h, p, e, hp⟩ => ⟨h, p, e, k _ _ hp⟩
  | .fails g, v, ⟨p, u, e, hp, hu⟩ => ⟨p, u, e, k _ _ hp, GA.keep k hu⟩
  | .pair s x y, v, ⟨h, p, u1, u2, e, hp, h1, h2⟩ => ⟨h, p, u1, u2, e, k _ _ hp, GA.keep k h1, GA.keep k h2⟩
theorem GA.same {H H' : Hp} (s : Same H H') {g : G} {v : V} (h : GA H g v) : GA H' g v := h.keep fun a xs e => s _ _ e
theorem GA.but {H H' : Hp} {d : Addr} {kvs : List (Key × V)} (b : But d H H') (hd : H d = some (.dK kvs)) {g : G} {v : V} (h : GA H g v) : GA H' g v :=
  h.keep fun a xs e => b _ _ e (ne_of e hd (by intro z; cases z))
/-- the words, lines and letters may be taken -/
def G.wf : G → Prop
  | .leaf s z => (s < 3 → shortB z = true) ∧ (s = 3 → lineB z = true ∧ z.length ≤ 20) ∧ (s = 4 → lineB z = true ∧ (cod z).Nodup) ∧ z.length < 100
  | .fails g => g.wf
  | .pair _ a b => a.wf ∧ b.wf
theorem short_pos {z : Str} (h : shortB z = true) : 0 < z.length := by
  unfold shortB wordB at h
  exact of_decide_eq_true (Bool.and_eq_true_iff.mp (Bool.and_eq_true_iff.mp h).1).2
end LA
end
section
set_option Elab.async false
set_option linter.all false
set_option maxRecDepth 100000
set_option maxHeartbeats 4100000
namespace LA
open PySem L2 XS XT XK XO
abbrev sMG : Stmt := top 69
def okS : Nat → Str → Prop
  | 3, z => lineB z = true ∧ z.length ≤ 20
  | 4, z => lineB z = true ∧ (cod z).Nodup ∧ z.length < 4000
  | _, z => shortB z = true
section
variable {P : Program} {w : World} {K : PySem.W.Frag} {mg : Str → Option Value} {base : Heap} {C fi : Nat → Addr} {fdi : Nat → FuncData}
def spInit1 (C : Addr) (fld : Str) (ok : Str → Prop) : Sp := fun vs H Q _ => ∃ (a dx : Addr) (z : Str), vs = [.ref a, .str z] ∧ H a = some (.ins C dx []) ∧ ok z ∧ ∀ H', H' a = some (.ins C dx [(fld, .str z)]) → But a H H' → Q .non H'
def spInitG (C : Nat → Addr) : Sp := fun vs H Q _ => ∃ (a dx : Addr) (g : G) (u : V), vs = [.ref a, u] ∧ H a = some (.ins (C 5) dx []) ∧ TA C H g u ∧ g.dep < 8 ∧ ∀ H', H' a = some (.ins (C 5) dx [("_test", u)]) → But a H H' → Q .non H'
structure Pair8 (a b : G) : Prop where
  one : a.dep < 8
  two : b.dep < 8
  few : a.lv + b.lv ≤ 8
def spInitD (C : Nat → Addr) (D : Addr) : Sp := fun vs H Q _ => ∃ (a dx : Addr) (x y : G) (u v : V), vs = [.ref a, u, v] ∧ H a = some (.ins D dx []) ∧ TA C H x u ∧ TA C H y v ∧ Pair8 x y ∧ ∀ H', H' a = some (.ins D dx [("_one", u), ("_other", v)]) → But a H H' → Q .non H'
structure MkAt (P : Program) (w : World) (K : PySem.W.Frag) (mg : Str → Option Value) (base : Heap) (k : Nat) (D : Addr) (ps : List Str) (sp : Sp) (f : Addr) (fd : FuncData) : Prop where
  made : Mk K D f
  ok : FnOk P w K mg base (L2.CX P w) k f fd ps sp
  b : Binds K fd ps []
/-- how the eight classes are made -/
structure Makers (P : Program) (w : World) (K : PySem.W.Frag) (mg : Str → Option Value) (base : Heap) (C fi : Nat → Addr) (fdi : Nat → FuncData) : Prop where
  m0 : MkAt P w K mg base 6 (C 0) ["self", "word"] (spInit1 (C 0) "_word" fun z => shortB z = true) (fi 0) (fdi 0)
  m1 : MkAt P w K mg base 6 (C 1) ["self", "word"] (spInit1 (C 1) "_word" fun z => shortB z = true) (fi 1) (fdi 1)
  m2 : MkAt P w K mg base 6 (C 2) ["self", "word"] (spInit1 (C 2) "_word" fun z => shortB z = true) (fi 2) (fdi 2)
  m3 : MkAt P w K mg base 6 (C 3) ["self", "line"] (spInit1 (C 3) "_line" fun z => lineB z = true ∧ z.length ≤ 20) (fi 3) (fdi 3)
  m4 : MkAt P w K mg base 6 (C 4) ["self", "letters"] (spInit1 (C 4) "_letters" fun z => lineB z = true ∧ (cod z).Nodup ∧ z.length < 4000) (fi 4) (fdi 4)
  m5 : MkAt P w K mg base 14 (C 5) ["self", "test"] (spInitG C) (fi 5) (fdi 5)
  m6 : MkAt P w K mg base 14 (C 6) ["self", "one", "other"] (spInitD C (C 6)) (fi 6) (fdi 6)
  m7 : MkAt P w K mg base 14 (C 7) ["self", "one", "other"] (spInitD C (C 7)) (fi 7) (fdi 7)
/-- what a new instance leaves -/
theorem made_same {H H' : Hp} {x dx D : Addr} (nx : H x = none) (nd : H dx = none) (b : But x (upd (upd H dx (.own x)) x (.ins D dx [])) H') : Same H H' := fun a o e => by
  have h1 := ne_of_none e nx
  have h2 := ne_of_none e nd
  exact b a o (by rw [upd_ne h1, upd_ne h2]; exact e) h1
theorem made_start {H : Hp} {x dx D : Addr} (nx : H x = none) (nd : H dx = none) : Same H (upd (upd H dx (.own x)) x (.ins D dx [])) := fun a o e => by
  rw [upd_ne (ne_of_none e nx), upd_ne (ne_of_none e nd)]
  exact e
/-- made_goal of a plain test of at most n -/
def spMG (C : Nat → Addr) (n : Nat) : Sp := fun vs H Q _ => ∃ (g : G) (v : V), vs = [v] ∧ GA H g v ∧ g.wf ∧ g.dep ≤ n ∧ g.dep ≤ 8 ∧ g.lv ≤ 8 ∧ ∀ (u : V) (H' : Hp), TA C H' g u → Same H H' → Q u H'
theorem passN {X : Cx} : Passes (L2.CX X.prog X.w) X (fun _ _ _ => False) := fun _ _ _ _ _ _ _ ⟨_, _, _, _, _, _, _, _, _, _, _, _, z⟩ => z.elim
theorem scMG : FnScope ["_law_goal_here", "_law_sort", "_law_first", "_law_second"] ["_law_goal_here"] (defScope sMG) := ⟨rfl, rfl, rfl, by decide +kernel, rfl, by decide +kernel, by decide +kernel⟩
theorem ok_MG {f : Addr} {fd : FuncData} (F : Fun K "_law_made_goal" "_law_made_goal" sMG f fd) (N : NamT mg C) (M : Makers P w K mg base C fi fdi) (mD : mg "_law_made_goal" = some (.ref f)) (kD : PySem.W.keepIn K (.ref f) = true) (bD : Binds K fd ["_law_goal_here"] []) :
    ∀ n, FnOk P w K mg base CX0 (n + 16) f fd ["_law_goal_here"] (spMG C n) := by
  intro n
  induction n with
  | zero =>
    refine F.ok scMG (fun vs H Q E h => ?_) (fun cdv A outer s H vs Q E hr h => ?_)
    · obtain ⟨g, v, rfl, _⟩ := h
      rfl
    · obtain ⟨g, v, rfl, _, _, d, _⟩ := h
      have := g.dep_pos
      omega
  | succ n ih =>
    refine F.ok scMG (fun vs H Q E h => ?_) (fun cdv A outer s H vs Q E hr h => ?_)
    · obtain ⟨g, v, rfl, _⟩ := h
      rfl
    · obtain ⟨g, v, rfl, hg, wf, hd, d8, l8, q⟩ := h
      have hr7 : Room 7 _ := hr.mono (by omega)
      have hr15 : Room 15 _ := hr.mono (by omega)
      refine ⟨_, pss_cons (by exact (ps_set (i := 1) scMG.nd rfl (.inl rfl) (pe_ix ix_tup (pv 0) pe_int (fun _ _ => rfl)))) (
        pss_cons (by exact (ps_if (pt_cmpR op_eq (pv 1) pe_str (nomark _)) (pss_one (by exact (ps_ret (pe_make M.m0.made M.m0.ok hr7 rfl N.n0 M.m0.b .nil passN (pa_cons (pe_ix ix_tup (pv 0) pe_int (fun _ _ => rfl)) pa_nil))))) pss_nil)) (
        pss_cons (by exact (ps_if (pt_cmpR op_in_seq (pv 1) (pe_tup (pa_cons pe_str (pa_cons pe_str pa_nil))) (by rfl)) (pss_one (by exact (ps_ret (pe_ifExp (pt_cmpR op_eq (pv 1) pe_str (nomark _)) (pe_make M.m1.made M.m1.ok hr7 rfl N.n1 M.m1.b .nil passN (pa_cons (pe_ix ix_tup (pv 0) pe_int (fun _ _ => rfl)) pa_nil)) (pe_make M.m2.made M.m2.ok hr7 rfl N.n2 M.m2.b .nil passN (pa_cons (pe_ix ix_tup (pv 0) pe_int (fun _ _ => rfl)) pa_nil)))))) pss_nil)) (
        pss_cons (by exact (ps_if (pt_cmpR op_in_seq (pv 1) (pe_tup (pa_cons pe_str (pa_cons pe_str pa_nil))) (by rfl)) (pss_one (by exact (ps_ret (pe_ifExp (pt_cmpR op_eq (pv 1) pe_str (nomark _)) (pe_make M.m3.made M.m3.ok hr7 rfl N.n3 M.m3.b .nil passN (pa_cons (pe_ix ix_tup (pv 0) pe_int (fun _ _ => rfl)) pa_nil)) (pe_make M.m4.made M.m4.ok hr7 rfl N.n4 M.m4.b .nil passN (pa_cons (pe_ix ix_tup (pv 0) pe_int (fun _ _ => rfl)) pa_nil)))))) pss_nil)) (
        pss_cons (by exact (ps_if (pt_cmpR op_eq (pv 1) pe_str (nomark _)) (pss_one (by exact (ps_ret (pe_make M.m5.made M.m5.ok hr15 rfl N.n5 M.m5.b .nil passN (pa_cons (pe_call ih hr rfl mD kD bD .nil pass0 (pa_cons (pe_ix ix_tup (pv 0) pe_int (fun _ _ => rfl)) pa_nil)) pa_nil))))) pss_nil)) (
        pss_cons (by exact (ps_par (i := 2) (j := 3) (by rfl) scMG.nd rfl rfl (by decide) rfl rfl (pa_cons (pe_call ih hr rfl mD kD bD .nil pass0 (pa_cons (pe_ix ix_tup (pv 0) pe_int (fun _ _ => rfl)) pa_nil)) (pa_cons (pe_call ih hr rfl mD kD bD .nil pass0 (pa_cons (pe_ix ix_tup (pv 0) pe_int (fun _ _ => rfl)) pa_nil)) pa_nil)) (by rfl))) (
        pss_one (by exact (ps_ret (pe_ifExp (pt_cmpR op_eq (pv 1) pe_str (nomark _)) (pe_make M.m6.made M.m6.ok hr15 rfl N.n6 M.m6.b .nil passN (pa_cons (pv 2) (pa_cons (pv 3) pa_nil))) (pe_make M.m7.made M.m7.ok hr15 rfl N.n7 M.m7.b .nil passN (pa_cons (pv 2) (pa_cons (pv 3) pa_nil)))))))))))), ?_⟩
      cases g with
      | leaf s z =>
        obtain ⟨s5, p, rfl, hp⟩ := hg
        obtain ⟨w1, w2, w3, w4⟩ := wf
        refine ⟨_, rfl, p, _, _, _, rfl, rfl, SqT.of hp, atI_nat (j := 0) rfl, ?_⟩
        have e5 : s = 0 ∨ s = 1 ∨ s = 2 ∨ s = 3 ∨ s = 4 := by omega
        rcases e5 with rfl | rfl | rfl | rfl | rfl
        case' inl =>
          refine ⟨_, rfl, rfl, _, rfl, ?_⟩
          rw [show decide (V.str (nmL 0) = V.str "has") = true by decide +kernel]
          refine iteT ⟨_, rfl, p, _, _, _, rfl, rfl, SqT.of hp, atI_nat (j := 1) rfl, fun x dx nx nd ne => ⟨x, dx, z, rfl, upd_same, w1 (by decide), fun H2 hx b => ⟨rfl, ?_⟩⟩⟩
          exact q (.ref x) H2 ⟨s5, x, dx, rfl, hx⟩ (made_same nx nd b)
        case' inr.inl =>
          refine ⟨_, rfl, rfl, _, rfl, ?_⟩
          rw [show decide (V.str (nmL 1) = V.str "has") = false by decide +kernel]
          refine iteF ?_
          refine ⟨_, rfl, (by show 2 ≤ sizeLine; decide), fun T1 nT1 => ⟨T1, _, rfl, .inr (SqT.of upd_same), rfl, rfl, _, rfl, ?_⟩⟩
          have sm1 := same_upd (o := .tup [.str "begins", .str "ends"]) nT1
          rw [show (if false = true then !inV (V.str (nmL 1)) [V.str "begins", V.str "ends"] else inV (V.str (nmL 1)) [V.str "begins", V.str "ends"]) = true by decide +kernel]
          refine iteT ?_
          refine ⟨_, rfl, rfl, _, rfl, ?_⟩
          rw [show decide (V.str (nmL 1) = V.str "begins") = true by decide +kernel]
          refine iteT ⟨_, rfl, p, _, _, _, rfl, rfl, SqT.of (sm1 _ _ hp), atI_nat (j := 1) rfl, fun x dx nx nd ne => ⟨x, dx, z, rfl, upd_same, w1 (by decide), fun H2 hx b => ⟨rfl, ?_⟩⟩⟩
          exact q (.ref x) H2 ⟨s5, x, dx, rfl, hx⟩ (sm1.trans (made_same nx nd b))
        case' inr.inr.inl =>
          refine ⟨_, rfl, rfl, _, rfl, ?_⟩
          rw [show decide (V.str (nmL 2) = V.str "has") = false by decide +kernel]
          refine iteF ?_
          refine ⟨_, rfl, (by show 2 ≤ sizeLine; decide), fun T1 nT1 => ⟨T1, _, rfl, .inr (SqT.of upd_same), rfl, rfl, _, rfl, ?_⟩⟩
          have sm1 := same_upd (o := .tup [.str "begins", .str "ends"]) nT1
          rw [show (if false = true then !inV (V.str (nmL 2)) [V.str "begins", V.str "ends"] else inV (V.str (nmL 2)) [V.str "begins", V.str "ends"]) = true by decide +kernel]
          refine iteT ?_
          refine ⟨_, rfl, rfl, _, rfl, ?_⟩
          rw [show decide (V.str (nmL 2) = V.str "begins") = false by decide +kernel]
          refine iteF ⟨_, rfl, p, _, _, _, rfl, rfl, SqT.of (sm1 _ _ hp), atI_nat (j := 1) rfl, fun x dx nx nd ne => ⟨x, dx, z, rfl, upd_same, w1 (by decide), fun H2 hx b => ⟨rfl, ?_⟩⟩⟩
          exact q (.ref x) H2 ⟨s5, x, dx, rfl, hx⟩ (sm1.trans (made_same nx nd b))
        case' inr.inr.inr.inl =>
          refine ⟨_, rfl, rfl, _, rfl, ?_⟩
          rw [show decide (V.str (nmL 3) = V.str "has") = false by decide +kernel]
          refine iteF ?_
          refine ⟨_, rfl, (by show 2 ≤ sizeLine; decide), fun T1 nT1 => ⟨T1, _, rfl, .inr (SqT.of upd_same), rfl, rfl, _, rfl, ?_⟩⟩
          have sm1 := same_upd (o := .tup [.str "begins", .str "ends"]) nT1
          rw [show (if false = true then !inV (V.str (nmL 3)) [V.str "begins", V.str "ends"] else inV (V.str (nmL 3)) [V.str "begins", V.str "ends"]) = false by decide +kernel]
          refine iteF ?_
          refine ⟨_, rfl, (by show 2 ≤ sizeLine; decide), fun T2 nT2 => ⟨T2, _, rfl, .inr (SqT.of upd_same), rfl, rfl, _, rfl, ?_⟩⟩
          have sm2 := (sm1).trans (same_upd (o := .tup [.str "is", .str "only"]) nT2)
          rw [show (if false = true then !inV (V.str (nmL 3)) [V.str "is", V.str "only"] else inV (V.str (nmL 3)) [V.str "is", V.str "only"]) = true by decide +kernel]
          refine iteT ?_
          refine ⟨_, rfl, rfl, _, rfl, ?_⟩
          rw [show decide (V.str (nmL 3) = V.str "is") = true by decide +kernel]
          refine iteT ⟨_, rfl, p, _, _, _, rfl, rfl, SqT.of (sm2 _ _ hp), atI_nat (j := 1) rfl, fun x dx nx nd ne => ⟨x, dx, z, rfl, upd_same, w2 rfl, fun H2 hx b => ⟨rfl, ?_⟩⟩⟩
          exact q (.ref x) H2 ⟨s5, x, dx, rfl, hx⟩ (sm2.trans (made_same nx nd b))
        case' inr.inr.inr.inr =>
          refine ⟨_, rfl, rfl, _, rfl, ?_⟩
          rw [show decide (V.str (nmL 4) = V.str "has") = false by decide +kernel]
          refine iteF ?_
          refine ⟨_, rfl, (by show 2 ≤ sizeLine; decide), fun T1 nT1 => ⟨T1, _, rfl, .inr (SqT.of upd_same), rfl, rfl, _, rfl, ?_⟩⟩
          have sm1 := same_upd (o := .tup [.str "begins", .str "ends"]) nT1
          rw [show (if false = true then !inV (V.str (nmL 4)) [V.str "begins", V.str "ends"] else inV (V.str (nmL 4)) [V.str "begins", V.str "ends"]) = false by decide +kernel]
          refine iteF ?_
          refine ⟨_, rfl, (by show 2 ≤ sizeLine; decide), fun T2 nT2 => ⟨T2, _, rfl, .inr (SqT.of upd_same), rfl, rfl, _, rfl, ?_⟩⟩
          have sm2 := (sm1).trans (same_upd (o := .tup [.str "is", .str "only"]) nT2)
          rw [show (if false = true then !inV (V.str (nmL 4)) [V.str "is", V.str "only"] else inV (V.str (nmL 4)) [V.str "is", V.str "only"]) = true by decide +kernel]
          refine iteT ?_
          refine ⟨_, rfl, rfl, _, rfl, ?_⟩
          rw [show decide (V.str (nmL 4) = V.str "is") = false by decide +kernel]
          refine iteF ⟨_, rfl, p, _, _, _, rfl, rfl, SqT.of (sm2 _ _ hp), atI_nat (j := 1) rfl, fun x dx nx nd ne => ⟨x, dx, z, rfl, upd_same, ⟨(w3 rfl).1, (w3 rfl).2, by omega⟩, fun H2 hx b => ⟨rfl, ?_⟩⟩⟩
          exact q (.ref x) H2 ⟨s5, x, dx, rfl, hx⟩ (sm2.trans (made_same nx nd b))
      | fails g =>
        obtain ⟨p, u, rfl, hp, hu⟩ := hg
        have dd : 1 + g.dep ≤ n + 1 := hd
        have d9 : 1 + g.dep ≤ 8 := d8
        have l9 : g.lv ≤ 8 := l8
        refine ⟨_, rfl, p, _, _, _, rfl, rfl, SqT.of hp, atI_nat (j := 0) rfl, ?_⟩
        refine ⟨_, rfl, rfl, _, rfl, ?_⟩
        rw [show decide (V.str ("fails") = V.str "has") = false by decide +kernel]
        refine iteF ?_
        refine ⟨_, rfl, (by show 2 ≤ sizeLine; decide), fun T1 nT1 => ⟨T1, _, rfl, .inr (SqT.of upd_same), rfl, rfl, _, rfl, ?_⟩⟩
        have sm1 := same_upd (o := .tup [.str "begins", .str "ends"]) nT1
        rw [show (if false = true then !inV (V.str ("fails")) [V.str "begins", V.str "ends"] else inV (V.str ("fails")) [V.str "begins", V.str "ends"]) = false by decide +kernel]
        refine iteF ?_
        refine ⟨_, rfl, (by show 2 ≤ sizeLine; decide), fun T2 nT2 => ⟨T2, _, rfl, .inr (SqT.of upd_same), rfl, rfl, _, rfl, ?_⟩⟩
        have sm2 := (sm1).trans (same_upd (o := .tup [.str "is", .str "only"]) nT2)
        rw [show (if false = true then !inV (V.str ("fails")) [V.str "is", V.str "only"] else inV (V.str ("fails")) [V.str "is", V.str "only"]) = false by decide +kernel]
        refine iteF ?_
        refine ⟨_, rfl, rfl, _, rfl, ?_⟩
        rw [show decide (V.str ("fails") = V.str "fails") = true by decide +kernel]
        refine iteT ⟨_, rfl, p, _, _, _, rfl, rfl, SqT.of (sm2 _ _ hp), atI_nat (j := 1) rfl, g, u, rfl, hu.same sm2, wf, by omega, by omega, l9, fun t H3 ht s3 => ?_⟩
        intro x dx nx nd ne
        refine ⟨x, dx, g, t, rfl, upd_same, ht.same (made_start nx nd), by omega, fun H4 hx b => ⟨rfl, ?_⟩⟩
        have s4 := made_same nx nd b
        exact q (.ref x) H4 ⟨x, dx, t, rfl, hx, ht.same s4⟩ ((sm2.trans s3).trans s4)
      | pair s a b =>
        obtain ⟨s2, p, u1, u2, rfl, hp, h1, h2⟩ := hg
        have dd : 1 + max a.dep b.dep ≤ n + 1 := hd
        have d9 : 1 + max a.dep b.dep ≤ 8 := d8
        have l9 : a.lv + b.lv ≤ 8 := l8
        refine ⟨_, rfl, p, _, _, _, rfl, rfl, SqT.of hp, atI_nat (j := 0) rfl, ?_⟩
        have es : s = 0 ∨ s = 1 := by omega
        rcases es with rfl | rfl
        case' inl =>
          refine ⟨_, rfl, rfl, _, rfl, ?_⟩
          rw [show decide (V.str (nmP 0) = V.str "has") = false by decide +kernel]
          refine iteF ?_
          refine ⟨_, rfl, (by show 2 ≤ sizeLine; decide), fun T1 nT1 => ⟨T1, _, rfl, .inr (SqT.of upd_same), rfl, rfl, _, rfl, ?_⟩⟩
          have sm1 := same_upd (o := .tup [.str "begins", .str "ends"]) nT1
          rw [show (if false = true then !inV (V.str (nmP 0)) [V.str "begins", V.str "ends"] else inV (V.str (nmP 0)) [V.str "begins", V.str "ends"]) = false by decide +kernel]
          refine iteF ?_
          refine ⟨_, rfl, (by show 2 ≤ sizeLine; decide), fun T2 nT2 => ⟨T2, _, rfl, .inr (SqT.of upd_same), rfl, rfl, _, rfl, ?_⟩⟩
          have sm2 := (sm1).trans (same_upd (o := .tup [.str "is", .str "only"]) nT2)
          rw [show (if false = true then !inV (V.str (nmP 0)) [V.str "is", V.str "only"] else inV (V.str (nmP 0)) [V.str "is", V.str "only"]) = false by decide +kernel]
          refine iteF ?_
          refine ⟨_, rfl, rfl, _, rfl, ?_⟩
          rw [show decide (V.str (nmP 0) = V.str "fails") = false by decide +kernel]
          refine iteF ?_
          refine ⟨_, rfl, p, _, _, _, rfl, rfl, SqT.of (sm2 _ _ hp), atI_nat (j := 1) rfl, a, u1, rfl, h1.same sm2, wf.1, by omega, by omega, by omega, fun t1 H3 ht1 s3 => ?_⟩
          have sm3 := sm2.trans s3
          refine ⟨_, rfl, p, _, _, _, rfl, rfl, SqT.of (sm3 _ _ hp), atI_nat (j := 2) rfl, b, u2, rfl, h2.same sm3, wf.2, by omega, by omega, by omega, fun t2 H4 ht2 s4 => ?_⟩
          refine ⟨_, _, rfl, ?_⟩
          refine ⟨_, rfl, rfl, _, rfl, ?_⟩
          rw [show decide (V.str (nmP 0) = V.str "both") = true by decide +kernel]
          refine iteT ⟨_, rfl, _, rfl, fun x dx nx nd ne => ?_⟩
          have s5 := made_start (D := C 6) nx nd
          refine ⟨x, dx, a, b, t1, t2, rfl, upd_same, (ht1.same s4).same s5, ht2.same s5, ⟨by omega, by omega, l9⟩, fun H5 hx bb => ⟨rfl, ?_⟩⟩
          have s6 := made_same nx nd bb
          exact q (.ref x) H5 ⟨by decide, x, dx, t1, t2, rfl, hx, (ht1.same s4).same s6, ht2.same s6⟩ ((sm3.trans s4).trans s6)
        case' inr =>
          refine ⟨_, rfl, rfl, _, rfl, ?_⟩
          rw [show decide (V.str (nmP 1) = V.str "has") = false by decide +kernel]
          refine iteF ?_
          refine ⟨_, rfl, (by show 2 ≤ sizeLine; decide), fun T1 nT1 => ⟨T1, _, rfl, .inr (SqT.of upd_same), rfl, rfl, _, rfl, ?_⟩⟩
          have sm1 := same_upd (o := .tup [.str "begins", .str "ends"]) nT1
          rw [show (if false = true then !inV (V.str (nmP 1)) [V.str "begins", V.str "ends"] else inV (V.str (nmP 1)) [V.str "begins", V.str "ends"]) = false by decide +kernel]
          refine iteF ?_
          refine ⟨_, rfl, (by show 2 ≤ sizeLine; decide), fun T2 nT2 => ⟨T2, _, rfl, .inr (SqT.of upd_same), rfl, rfl, _, rfl, ?_⟩⟩
          have sm2 := (sm1).trans (same_upd (o := .tup [.str "is", .str "only"]) nT2)
          rw [show (if false = true then !inV (V.str (nmP 1)) [V.str "is", V.str "only"] else inV (V.str (nmP 1)) [V.str "is", V.str "only"]) = false by decide +kernel]
          refine iteF ?_
          refine ⟨_, rfl, rfl, _, rfl, ?_⟩
          rw [show decide (V.str (nmP 1) = V.str "fails") = false by decide +kernel]
          refine iteF ?_
          refine ⟨_, rfl, p, _, _, _, rfl, rfl, SqT.of (sm2 _ _ hp), atI_nat (j := 1) rfl, a, u1, rfl, h1.same sm2, wf.1, by omega, by omega, by omega, fun t1 H3 ht1 s3 => ?_⟩
          have sm3 := sm2.trans s3
          refine ⟨_, rfl, p, _, _, _, rfl, rfl, SqT.of (sm3 _ _ hp), atI_nat (j := 2) rfl, b, u2, rfl, h2.same sm3, wf.2, by omega, by omega, by omega, fun t2 H4 ht2 s4 => ?_⟩
          refine ⟨_, _, rfl, ?_⟩
          refine ⟨_, rfl, rfl, _, rfl, ?_⟩
          rw [show decide (V.str (nmP 1) = V.str "both") = false by decide +kernel]
          refine iteF ⟨_, rfl, _, rfl, fun x dx nx nd ne => ?_⟩
          have s5 := made_start (D := C 7) nx nd
          refine ⟨x, dx, a, b, t1, t2, rfl, upd_same, (ht1.same s4).same s5, ht2.same s5, ⟨by omega, by omega, l9⟩, fun H5 hx bb => ⟨rfl, ?_⟩⟩
          have s6 := made_same nx nd bb
          exact q (.ref x) H5 ⟨by decide, x, dx, t1, t2, rfl, hx, (ht1.same s4).same s6, ht2.same s6⟩ ((sm3.trans s4).trans s6)
end
end LA
end
section
set_option Elab.async false
set_option linter.all false
set_option maxRecDepth 100000
set_option maxHeartbeats 4100000
namespace LA
open PySem L2 XS XT XK XO
abbrev sGoal : Stmt := top 68
/-- how many draws a plain test of so many levels takes -/
def cost (b : Int) : Nat → Int
  | 0 => 4 + b
  | k + 1 => 4 + b + 2 * cost b k
theorem PenAt.le {H : Hp} {d c : Addr} {n m : Int} {ns : List Int} (p : PenAt H d c n ns) (h : n ≤ m) : PenAt H d c m ns := by
  obtain ⟨kvs, t, l, q⟩ := p
  exact q.more h
theorem But.ne {d D : Addr} {H G : Hp} (b : But d H G) (n : D ≠ d) (h : G D = Option.none) : H D = Option.none := b.none n h
theorem line_of {y z : Str} (h : ∀ c ∈ cod y, c ∈ cod z) (sz : Sgn z) : lineB y = true := by
  unfold lineB
  rw [List.all_eq_true]
  exact fun c hc => decide_eq_true (sz.lets c (h c hc))
theorem short_of {y z : Str} (h : ∀ c ∈ cod y, c ∈ cod z) (sz : Sgn z) (h1 : 1 ≤ y.length) (h8 : y.length ≤ 8) : shortB y = true := by
  unfold shortB wordB
  rw [line_of h sz, decide_eq_true (show 0 < y.length by omega), decide_eq_true h8]
  rfl
theorem cost_pos {b : Int} (hb : 1 ≤ b) : ∀ k, 5 ≤ cost b k
  | 0 => by show 5 ≤ 4 + b; omega
  | k + 1 => by
    have := cost_pos hb k
    show 5 ≤ 4 + b + 2 * cost b k
    omega
theorem cod_pre (z : Str) (i : Nat) : cod (cutS z none (some (i : Int))) = (cod z).take i := by
  show ((((cod z).drop (HT.sIx z.length 0 none)).take (HT.sIx z.length z.length (some (i : Int)) - HT.sIx z.length 0 none)).toArray).toList = _
  rw [HT.sIx_nat, HT.sIx_none]
  show (cod z).take (min i z.length - 0) = _
  rw [List.take_eq_take_iff, len_cod]
  omega
section
variable {P : Program} {w : World} {K : PySem.W.Frag} {mg : Str → Option Value} {base : Heap}
structure Draws (P : Program) (w : World) (K : PySem.W.Frag) (mg : Str → Option Value) (base : Heap) (f : Addr) (fd : FuncData) : Prop where
  ok : FnOk P w K mg base CX0 1 f fd ["_law_pen_here", "_law_span"] spDraw
  m : mg "_law_draw" = some (.ref f)
  k : PySem.W.keepIn K (.ref f) = true
  b : Binds K fd ["_law_pen_here", "_law_span"] []
/-- goal: a plain test of at most k + 1 levels, of words of at most b letters -/
def spGoal (k : Nat) : Sp := fun vs H Q _ => ∃ (d c : Addr) (n : Int) (ns : List Int) (z : Str) (b : Int), vs = [.ref d, .str z, .int b, .int k] ∧ PenAt H d c n ns ∧ n + cost b k < 1000000 ∧ Sgn z ∧ 1 ≤ b ∧ b ≤ 8 ∧
  ∀ (v : V) (g : G) (H' : Hp), GA H' g v → g.wf → g.dep ≤ k + 1 → g.lv ≤ 2 ^ k → PenAt H' d c (n + cost b k) ns → But d H H' → Q v H'
theorem scGo : FnScope ["_law_pen_here", "_law_signs_here", "_law_wide", "_law_deep", "_law_way", "_law_first"] ["_law_pen_here", "_law_signs_here", "_law_wide", "_law_deep"] (defScope sGoal) := ⟨rfl, rfl, rfl, by decide +kernel, rfl, by decide +kernel, by decide +kernel⟩
theorem ok_goal {f fD fR fP : Addr} {fd fdD fdR fdP : FuncData} (F : Fun K "_law_goal" "_law_goal" sGoal f fd) (D : Draws P w K mg base fD fdD) (M : PickAt P w K mg base fP fdP)
    (R : CallOf P w K mg base 3 "_law_row" ["_law_pen_here", "_law_signs_here", "_law_least", "_law_most_letters"] spRow fR fdR)
    (mG : mg "_law_goal" = some (.ref f)) (kG : PySem.W.keepIn K (.ref f) = true) (bG : Binds K fd ["_law_pen_here", "_law_signs_here", "_law_wide", "_law_deep"] []) :
    ∀ k, FnOk P w K mg base CX0 (k + 4) f fd ["_law_pen_here", "_law_signs_here", "_law_wide", "_law_deep"] (spGoal k) := by
  intro k
  induction k with
  | zero =>
    refine F.ok scGo (fun vs H Q E h => ?_) (fun cdv A outer s H vs Q E hr h => ?_)
    · obtain ⟨d, c, n, ns, z, b, rfl, _⟩ := h
      rfl
    · obtain ⟨d, c, n, ns, z, b, rfl, pen, hn, sz, b1, b8, q⟩ := h
      have hr3 : Room 3 _ := hr.mono (by omega)
      have hr2 : Room 2 _ := hr.mono (by omega)
      have hr1 : Room 1 _ := hr.mono (by omega)
      have cp := cost_pos b1 0
      have cb : 4 + b ≤ cost b 0 := by
        show 4 + b ≤ 4 + b
        exact Int.le_refl _
        
      have n0 := pen.n0
      have zl : z.length ≤ sizeLine := Nat.le_trans sz.three (by decide)
      have lv1 : 1 ≤ 2 ^ 0 := Nat.one_le_two_pow
      refine ⟨_, pss_cons (by exact (ps_set (i := 4) scGo.nd rfl (.inl rfl) (pe_ifExp (pt_cmpR op_gt (pv 3) pe_int (nomark _)) (pe_call D.ok hr1 rfl D.m D.k D.b .nil pass0 (pa_cons (pv 0) (pa_cons pe_int pa_nil))) (pe_call D.ok hr1 rfl D.m D.k D.b .nil pass0 (pa_cons (pv 0) (pa_cons pe_int pa_nil)))))) (
        pss_cons (by exact (ps_if (pt_cmpR op_lt (pv 4) pe_int (nomark _)) (pss_one (by exact (ps_ret (pe_tup (pa_cons (pe_call M.ok hr2 rfl M.m M.k M.b .nil pass0 (pa_cons (pv 0) (pa_cons (pe_lst (pa_cons pe_str (pa_cons pe_str (pa_cons pe_str pa_nil)))) pa_nil))) (pa_cons (pe_call R.ok hr3 rfl R.m R.k R.b .nil pass0 (pa_cons (pv 0) (pa_cons (pv 1) (pa_cons pe_int (pa_cons (pv 2) pa_nil))))) pa_nil)))))) pss_nil)) (
        pss_cons (by exact (ps_if (pt_cmpR op_eq (pv 4) pe_int (nomark _)) (pss_one (by exact (ps_ret (pe_tup (pa_cons pe_str (pa_cons (pe_call R.ok hr3 rfl R.m R.k R.b .nil pass0 (pa_cons (pv 0) (pa_cons (pv 1) (pa_cons pe_int (pa_cons (pv 2) pa_nil))))) pa_nil)))))) pss_nil)) (
        pss_cons (by exact (ps_if (pt_cmpR op_lt (pv 4) pe_int (nomark _)) (pss_one (by exact (ps_ret (pe_call M.ok hr2 rfl M.m M.k M.b .nil pass0 (pa_cons (pv 0) (pa_cons (pe_lst (pa_cons (pe_tup (pa_cons pe_str (pa_cons (pe_slice sl_str (pv 1) po_none (po_some pe_int)) pa_nil))) (pa_cons (pe_tup (pa_cons pe_str (pa_cons (pe_slice sl_str (pv 1) po_none (po_some pe_int)) pa_nil))) (pa_cons (pe_tup (pa_cons pe_str (pa_cons pe_str pa_nil))) (pa_cons (pe_tup (pa_cons pe_str (pa_cons (pe_ix ix_str (pv 1) pe_int (fun _ _ => rfl)) pa_nil))) pa_nil))))) pa_nil)))))) pss_nil)) (
        pss_never)))), ?_⟩
      refine ⟨_, rfl, _, _, rfl, rfl, _, rfl, ?_⟩
      rw [decide_eq_false (show ¬ (((0 : Nat) : Int) > 0) by omega)]
      refine iteF ⟨_, rfl, d, c, n, ns, 6, rfl, pen, by omega, by decide, by decide, fun r H1 r0 r1 pen1 bb1 => ?_⟩
      refine ⟨_, rfl, _, _, rfl, rfl, _, rfl, ?_⟩
      by_cases c1 : r < 3
      · rw [decide_eq_true c1]
        refine iteT ⟨_, rfl, (by show 3 ≤ sizeLine; decide), fun L nL => ?_⟩
        have sL := same_upd (o := .lst [.str "has", .str "begins", .str "ends"]) nL
        refine ⟨d, c, n + 1, ns, _, rfl, pen1.keep sL, by omega, .inl ⟨L, _, rfl, upd_same, (by show 0 < 3; decide), (by show 3 < 1000000; decide), fun v H2 hv pen2 bb2 => ?_⟩⟩
        obtain ⟨w, rfl, hw⟩ : ∃ w : Nat, v = .str (nmL w) ∧ w < 3 := by
          simp only [List.mem_cons, List.not_mem_nil, or_false] at hv
          rcases hv with rfl | rfl | rfl
          · exact ⟨0, rfl, by decide⟩
          · exact ⟨1, rfl, by decide⟩
          · exact ⟨2, rfl, by decide⟩
        refine ⟨_, rfl, _, rfl, _, rfl, d, c, n + 1 + 1, ns, z, 1, b, rfl, pen2, by omega, by have := sz.two; omega, by have := sz.three; omega, by decide, b1, fun y H3 hy l1 l2 pen3 bb3 => ⟨(by show 2 ≤ sizeLine; decide), fun T nT => ?_⟩⟩
        have sT := same_upd (o := .tup [.str (nmL w), .str y]) nT
        refine q (.ref T) (.leaf w y) _ ⟨by omega, T, rfl, upd_same⟩ ⟨fun _ => short_of hy sz (by omega) (by omega), fun e => absurd hw (by omega), fun e => absurd hw (by omega), by omega⟩ (by show 1 ≤ _; omega) lv1 ((pen3.keep sT).le (by omega)) ((((bb1.trans (But.same sL)).trans bb2).trans bb3).trans (But.same sT))
      · rw [decide_eq_false c1]
        refine iteF ⟨_, rfl, rfl, _, rfl, ?_⟩
        by_cases c2 : r = 3
        · subst c2
          rw [decide_eq_true rfl]
          refine iteT ⟨_, rfl, _, rfl, _, rfl, d, c, n + 1, ns, z, 0, b, rfl, pen1, by omega, by have := sz.two; omega, by have := sz.three; omega, by decide, by omega, fun y H3 hy l1 l2 pen3 bb3 => ⟨(by show 2 ≤ sizeLine; decide), fun T nT => ?_⟩⟩
          have sT := same_upd (o := .tup [.str "is", .str y]) nT
          exact q (.ref T) (.leaf 3 y) _ ⟨by decide, T, rfl, upd_same⟩ ⟨fun e => absurd e (by decide), fun _ => ⟨line_of hy sz, by omega⟩, fun e => absurd e (by decide), by omega⟩ (by show 1 ≤ _; omega) lv1 ((pen3.keep sT).le (by omega)) ((bb1.trans bb3).trans (But.same sT))
        · rw [decide_eq_false (fun e => c2 (by injection e))]
          refine iteF ⟨_, rfl, _, _, rfl, rfl, _, rfl, ?_⟩
          by_cases c3 : r < 6
          · rw [decide_eq_true c3]
            have zc : 0 < (cod z).length := by
              rw [len_cod]
              have := sz.two
              omega
            have c0 := (cod z)[0]'zc
            have at0 : atI z.cps.toList 0 = some ((cod z)[0]'zc) := atI_nat (j := 0) (List.getElem?_eq_getElem zc)
            refine iteT ⟨_, rfl, _, rfl, _, rfl, z, rfl, zl, (by show 2 ≤ sizeLine; decide), fun u1 m1 => ⟨_, rfl, _, rfl, z, rfl, zl, (by show 2 ≤ sizeLine; decide), fun u2 m2 => ⟨(by show 2 ≤ sizeLine; decide), fun u3 m3 => ⟨_, rfl, z, 0, (cod z)[0]'zc, rfl, rfl, zl, at0, (by show 2 ≤ sizeLine; decide), fun u4 m4 => ⟨(by show 4 ≤ sizeLine; decide), fun L nL => ?_⟩⟩⟩⟩⟩
            have q5 := same_upd (o := .lst [.ref u1, .ref u2, .ref u3, .ref u4]) nL
            have q4 := (same_upd (o := .tup [.str "has", .str ⟨#[(cod z)[0]'zc]⟩]) m4).trans q5
            have q3 := (same_upd (o := .tup [.str "only", .str ""]) m3).trans q4
            have q2 := (same_upd (o := .tup [.str "only", .str (cutS z none (some 2))]) m2).trans q3
            have q1 := (same_upd (o := .tup [.str "only", .str (cutS z none (some 1))]) m1).trans q2
            have penL := pen1.keep q1
            refine ⟨d, c, n + 1, ns, _, rfl, penL, by omega, .inl ⟨L, _, rfl, upd_same, (by show 0 < 4; decide), (by show 4 < 1000000; decide), fun v H2 hv pen2 bb2 => ?_⟩⟩
            obtain ⟨kv, _, _, pp⟩ := penL
            have bb := (bb1.trans (But.same q1)).trans bb2
            have far : ∀ (u : Addr) (xs : List V) (G1 : Hp), G1 u = some (.tup xs) → Same G1 _ → H2 u = some (.tup xs) := fun u xs G1 hu sm => bb2 _ _ (sm _ _ hu) (ne_of (sm _ _ hu) pp.dc (by intro w; cases w))
            have pre : ∀ i : Nat, i ≤ 2 → lineB (cutS z none (some (i : Int))) = true ∧ (cod (cutS z none (some (i : Int)))).Nodup := fun i _ => by
              refine ⟨line_of (fun x hx => ?_) sz, ?_⟩
              · rw [cod_pre] at hx
                exact List.mem_of_mem_take hx
              · rw [cod_pre]
                exact sz.nd.sublist (List.take_sublist _ _)
            have len : ∀ o : Option Int, (cutS z none o).length < 100 := fun o => Nat.lt_of_le_of_lt (cutS_length z none o) (by have := sz.three; omega)
            simp only [List.mem_cons, List.not_mem_nil, or_false] at hv
            have pend := pen2.le (show n + 1 + 1 ≤ n + cost b 0 by omega)
            rcases hv with rfl | rfl | rfl | rfl
            · exact q _ (.leaf 4 (cutS z none (some 1))) H2 ⟨by decide, u1, rfl, far u1 _ _ upd_same q2⟩ ⟨fun e => absurd e (by decide), fun e => absurd e (by decide), fun _ => pre 1 (by decide), len _⟩ (by show 1 ≤ _; omega) lv1 pend bb
            · exact q _ (.leaf 4 (cutS z none (some 2))) H2 ⟨by decide, u2, rfl, far u2 _ _ upd_same q3⟩ ⟨fun e => absurd e (by decide), fun e => absurd e (by decide), fun _ => pre 2 (by decide), len _⟩ (by show 1 ≤ _; omega) lv1 pend bb
            · exact q _ (.leaf 4 "") H2 ⟨by decide, u3, rfl, far u3 _ _ upd_same q4⟩ ⟨fun e => absurd e (by decide), fun e => absurd e (by decide), fun _ => ⟨by decide +kernel, by decide +kernel⟩, by decide⟩ (by show 1 ≤ _; omega) lv1 pend bb
            · exact q _ (.leaf 0 ⟨#[(cod z)[0]'zc]⟩) H2 ⟨by decide, u4, rfl, far u4 _ _ upd_same q5⟩ ⟨fun _ => short_of (fun x hx => by
                have e : x = (cod z)[0]'zc := by simpa using hx
                rw [e]
                exact List.getElem_mem zc) sz (by show 1 ≤ 1; omega) (by show 1 ≤ 8; omega), fun e => absurd e (by decide), fun e => absurd e (by decide), by show 1 < 100; omega⟩ (by show 1 ≤ _; omega) lv1 pend bb
          · omega
  | succ k ih =>
    refine F.ok scGo (fun vs H Q E h => ?_) (fun cdv A outer s H vs Q E hr h => ?_)
    · obtain ⟨d, c, n, ns, z, b, rfl, _⟩ := h
      rfl
    · obtain ⟨d, c, n, ns, z, b, rfl, pen, hn, sz, b1, b8, q⟩ := h
      have hr3 : Room 3 _ := hr.mono (by omega)
      have hr2 : Room 2 _ := hr.mono (by omega)
      have hr1 : Room 1 _ := hr.mono (by omega)
      have cp := cost_pos b1 (k + 1)
      have cb : 4 + b ≤ cost b (k + 1) := by
        have := cost_pos b1 k
        show 4 + b ≤ 4 + b + 2 * cost b k
        omega
      have n0 := pen.n0
      have zl : z.length ≤ sizeLine := Nat.le_trans sz.three (by decide)
      have lv1 : 1 ≤ 2 ^ (k + 1) := Nat.one_le_two_pow
      refine ⟨_, pss_cons (by exact (ps_set (i := 4) scGo.nd rfl (.inl rfl) (pe_ifExp (pt_cmpR op_gt (pv 3) pe_int (nomark _)) (pe_call D.ok hr1 rfl D.m D.k D.b .nil pass0 (pa_cons (pv 0) (pa_cons pe_int pa_nil))) (pe_call D.ok hr1 rfl D.m D.k D.b .nil pass0 (pa_cons (pv 0) (pa_cons pe_int pa_nil)))))) (
        pss_cons (by exact (ps_if (pt_cmpR op_lt (pv 4) pe_int (nomark _)) (pss_one (by exact (ps_ret (pe_tup (pa_cons (pe_call M.ok hr2 rfl M.m M.k M.b .nil pass0 (pa_cons (pv 0) (pa_cons (pe_lst (pa_cons pe_str (pa_cons pe_str (pa_cons pe_str pa_nil)))) pa_nil))) (pa_cons (pe_call R.ok hr3 rfl R.m R.k R.b .nil pass0 (pa_cons (pv 0) (pa_cons (pv 1) (pa_cons pe_int (pa_cons (pv 2) pa_nil))))) pa_nil)))))) pss_nil)) (
        pss_cons (by exact (ps_if (pt_cmpR op_eq (pv 4) pe_int (nomark _)) (pss_one (by exact (ps_ret (pe_tup (pa_cons pe_str (pa_cons (pe_call R.ok hr3 rfl R.m R.k R.b .nil pass0 (pa_cons (pv 0) (pa_cons (pv 1) (pa_cons pe_int (pa_cons (pv 2) pa_nil))))) pa_nil)))))) pss_nil)) (
        pss_cons (by exact (ps_if (pt_cmpR op_lt (pv 4) pe_int (nomark _)) (pss_one (by exact (ps_ret (pe_call M.ok hr2 rfl M.m M.k M.b .nil pass0 (pa_cons (pv 0) (pa_cons (pe_lst (pa_cons (pe_tup (pa_cons pe_str (pa_cons (pe_slice sl_str (pv 1) po_none (po_some pe_int)) pa_nil))) (pa_cons (pe_tup (pa_cons pe_str (pa_cons (pe_slice sl_str (pv 1) po_none (po_some pe_int)) pa_nil))) (pa_cons (pe_tup (pa_cons pe_str (pa_cons pe_str pa_nil))) (pa_cons (pe_tup (pa_cons pe_str (pa_cons (pe_ix ix_str (pv 1) pe_int (fun _ _ => rfl)) pa_nil))) pa_nil))))) pa_nil)))))) pss_nil)) (
        pss_cons (by exact (ps_if (pt_cmpR op_eq (pv 4) pe_int (nomark _)) (pss_one (by exact (ps_ret (pe_tup (pa_cons pe_str (pa_cons (pe_call ih hr rfl mG kG bG .nil pass0 (pa_cons (pv 0) (pa_cons (pv 1) (pa_cons (pv 2) (pa_cons (pe_op op_sub (pv 3) pe_int) pa_nil))))) pa_nil)))))) pss_nil)) (
        pss_cons (by exact (ps_set (i := 5) scGo.nd rfl (.inl rfl) (pe_call ih hr rfl mG kG bG .nil pass0 (pa_cons (pv 0) (pa_cons (pv 1) (pa_cons (pv 2) (pa_cons (pe_op op_sub (pv 3) pe_int) pa_nil))))))) (
        pss_one (by exact (ps_ret (pe_tup (pa_cons (pe_call M.ok hr2 rfl M.m M.k M.b .nil pass0 (pa_cons (pv 0) (pa_cons (pe_lst (pa_cons pe_str (pa_cons pe_str pa_nil))) pa_nil))) (pa_cons (pv 5) (pa_cons (pe_call ih hr rfl mG kG bG .nil pass0 (pa_cons (pv 0) (pa_cons (pv 1) (pa_cons (pv 2) (pa_cons (pe_op op_sub (pv 3) pe_int) pa_nil))))) pa_nil)))))))))))), ?_⟩
      refine ⟨_, rfl, _, _, rfl, rfl, _, rfl, ?_⟩
      rw [decide_eq_true (show (((k + 1 : Nat) : Int) > 0) by omega)]
      refine iteT ⟨_, rfl, d, c, n, ns, 9, rfl, pen, by omega, by decide, by decide, fun r H1 r0 r1 pen1 bb1 => ?_⟩
      refine ⟨_, rfl, _, _, rfl, rfl, _, rfl, ?_⟩
      by_cases c1 : r < 3
      · rw [decide_eq_true c1]
        refine iteT ⟨_, rfl, (by show 3 ≤ sizeLine; decide), fun L nL => ?_⟩
        have sL := same_upd (o := .lst [.str "has", .str "begins", .str "ends"]) nL
        refine ⟨d, c, n + 1, ns, _, rfl, pen1.keep sL, by omega, .inl ⟨L, _, rfl, upd_same, (by show 0 < 3; decide), (by show 3 < 1000000; decide), fun v H2 hv pen2 bb2 => ?_⟩⟩
        obtain ⟨w, rfl, hw⟩ : ∃ w : Nat, v = .str (nmL w) ∧ w < 3 := by
          simp only [List.mem_cons, List.not_mem_nil, or_false] at hv
          rcases hv with rfl | rfl | rfl
          · exact ⟨0, rfl, by decide⟩
          · exact ⟨1, rfl, by decide⟩
          · exact ⟨2, rfl, by decide⟩
        refine ⟨_, rfl, _, rfl, _, rfl, d, c, n + 1 + 1, ns, z, 1, b, rfl, pen2, by omega, by have := sz.two; omega, by have := sz.three; omega, by decide, b1, fun y H3 hy l1 l2 pen3 bb3 => ⟨(by show 2 ≤ sizeLine; decide), fun T nT => ?_⟩⟩
        have sT := same_upd (o := .tup [.str (nmL w), .str y]) nT
        refine q (.ref T) (.leaf w y) _ ⟨by omega, T, rfl, upd_same⟩ ⟨fun _ => short_of hy sz (by omega) (by omega), fun e => absurd hw (by omega), fun e => absurd hw (by omega), by omega⟩ (by show 1 ≤ _; omega) lv1 ((pen3.keep sT).le (by omega)) ((((bb1.trans (But.same sL)).trans bb2).trans bb3).trans (But.same sT))
      · rw [decide_eq_false c1]
        refine iteF ⟨_, rfl, rfl, _, rfl, ?_⟩
        by_cases c2 : r = 3
        · subst c2
          rw [decide_eq_true rfl]
          refine iteT ⟨_, rfl, _, rfl, _, rfl, d, c, n + 1, ns, z, 0, b, rfl, pen1, by omega, by have := sz.two; omega, by have := sz.three; omega, by decide, by omega, fun y H3 hy l1 l2 pen3 bb3 => ⟨(by show 2 ≤ sizeLine; decide), fun T nT => ?_⟩⟩
          have sT := same_upd (o := .tup [.str "is", .str y]) nT
          exact q (.ref T) (.leaf 3 y) _ ⟨by decide, T, rfl, upd_same⟩ ⟨fun e => absurd e (by decide), fun _ => ⟨line_of hy sz, by omega⟩, fun e => absurd e (by decide), by omega⟩ (by show 1 ≤ _; omega) lv1 ((pen3.keep sT).le (by omega)) ((bb1.trans bb3).trans (But.same sT))
        · rw [decide_eq_false (fun e => c2 (by injection e))]
          refine iteF ⟨_, rfl, _, _, rfl, rfl, _, rfl, ?_⟩
          by_cases c3 : r < 6
          · rw [decide_eq_true c3]
            have zc : 0 < (cod z).length := by
              rw [len_cod]
              have := sz.two
              omega
            have c0 := (cod z)[0]'zc
            have at0 : atI z.cps.toList 0 = some ((cod z)[0]'zc) := atI_nat (j := 0) (List.getElem?_eq_getElem zc)
            refine iteT ⟨_, rfl, _, rfl, _, rfl, z, rfl, zl, (by show 2 ≤ sizeLine; decide), fun u1 m1 => ⟨_, rfl, _, rfl, z, rfl, zl, (by show 2 ≤ sizeLine; decide), fun u2 m2 => ⟨(by show 2 ≤ sizeLine; decide), fun u3 m3 => ⟨_, rfl, z, 0, (cod z)[0]'zc, rfl, rfl, zl, at0, (by show 2 ≤ sizeLine; decide), fun u4 m4 => ⟨(by show 4 ≤ sizeLine; decide), fun L nL => ?_⟩⟩⟩⟩⟩
            have q5 := same_upd (o := .lst [.ref u1, .ref u2, .ref u3, .ref u4]) nL
            have q4 := (same_upd (o := .tup [.str "has", .str ⟨#[(cod z)[0]'zc]⟩]) m4).trans q5
            have q3 := (same_upd (o := .tup [.str "only", .str ""]) m3).trans q4
            have q2 := (same_upd (o := .tup [.str "only", .str (cutS z none (some 2))]) m2).trans q3
            have q1 := (same_upd (o := .tup [.str "only", .str (cutS z none (some 1))]) m1).trans q2
            have penL := pen1.keep q1
            refine ⟨d, c, n + 1, ns, _, rfl, penL, by omega, .inl ⟨L, _, rfl, upd_same, (by show 0 < 4; decide), (by show 4 < 1000000; decide), fun v H2 hv pen2 bb2 => ?_⟩⟩
            obtain ⟨kv, _, _, pp⟩ := penL
            have bb := (bb1.trans (But.same q1)).trans bb2
            have far : ∀ (u : Addr) (xs : List V) (G1 : Hp), G1 u = some (.tup xs) → Same G1 _ → H2 u = some (.tup xs) := fun u xs G1 hu sm => bb2 _ _ (sm _ _ hu) (ne_of (sm _ _ hu) pp.dc (by intro w; cases w))
            have pre : ∀ i : Nat, i ≤ 2 → lineB (cutS z none (some (i : Int))) = true ∧ (cod (cutS z none (some (i : Int)))).Nodup := fun i _ => by
              refine ⟨line_of (fun x hx => ?_) sz, ?_⟩
              · rw [cod_pre] at hx
                exact List.mem_of_mem_take hx
              · rw [cod_pre]
                exact sz.nd.sublist (List.take_sublist _ _)
            have len : ∀ o : Option Int, (cutS z none o).length < 100 := fun o => Nat.lt_of_le_of_lt (cutS_length z none o) (by have := sz.three; omega)
            simp only [List.mem_cons, List.not_mem_nil, or_false] at hv
            have pend := pen2.le (show n + 1 + 1 ≤ n + cost b (k + 1) by omega)
            rcases hv with rfl | rfl | rfl | rfl
            · exact q _ (.leaf 4 (cutS z none (some 1))) H2 ⟨by decide, u1, rfl, far u1 _ _ upd_same q2⟩ ⟨fun e => absurd e (by decide), fun e => absurd e (by decide), fun _ => pre 1 (by decide), len _⟩ (by show 1 ≤ _; omega) lv1 pend bb
            · exact q _ (.leaf 4 (cutS z none (some 2))) H2 ⟨by decide, u2, rfl, far u2 _ _ upd_same q3⟩ ⟨fun e => absurd e (by decide), fun e => absurd e (by decide), fun _ => pre 2 (by decide), len _⟩ (by show 1 ≤ _; omega) lv1 pend bb
            · exact q _ (.leaf 4 "") H2 ⟨by decide, u3, rfl, far u3 _ _ upd_same q4⟩ ⟨fun e => absurd e (by decide), fun e => absurd e (by decide), fun _ => ⟨by decide +kernel, by decide +kernel⟩, by decide⟩ (by show 1 ≤ _; omega) lv1 pend bb
            · exact q _ (.leaf 0 ⟨#[(cod z)[0]'zc]⟩) H2 ⟨by decide, u4, rfl, far u4 _ _ upd_same q5⟩ ⟨fun _ => short_of (fun x hx => by
                have e : x = (cod z)[0]'zc := by simpa using hx
                rw [e]
                exact List.getElem_mem zc) sz (by show 1 ≤ 1; omega) (by show 1 ≤ 8; omega), fun e => absurd e (by decide), fun e => absurd e (by decide), by show 1 < 100; omega⟩ (by show 1 ≤ _; omega) lv1 pend bb
          · rw [decide_eq_false c3]
            have cost2 : cost b (k + 1) = 4 + b + 2 * cost b k := rfl
            have cpk := cost_pos b1 k
            have pw : 2 ^ (k + 1) = 2 ^ k + 2 ^ k := by rw [Nat.pow_succ]; omega
            have ek : (((k + 1 : Nat) : Int) - 1) = (k : Int) := by omega
            refine iteF ⟨_, rfl, rfl, _, rfl, ?_⟩
            by_cases c4 : r = 6
            · subst c4
              rw [decide_eq_true rfl]
              refine iteT ⟨_, rfl, _, rfl, _, rfl, _, rfl, _, _, rfl, rfl, d, c, n + 1, ns, z, b, (by show [V.ref d, V.str z, V.int b, V.int (((k + 1 : Nat) : Int) - 1)] = _; rw [ek]), pen1, by omega, sz, b1, b8, fun v g H2 hg wf dg lg pen2 bb2 => ⟨(by show 2 ≤ sizeLine; decide), fun T nT => ?_⟩⟩
              have sT := same_upd (o := .tup [.str "fails", v]) nT
              exact q (.ref T) (.fails g) _ ⟨T, v, rfl, upd_same, hg.same sT⟩ wf (by show 1 + g.dep ≤ _; omega) (by show g.lv ≤ _; omega) ((pen2.keep sT).le (by omega)) ((bb1.trans bb2).trans (But.same sT))
            · rw [decide_eq_false (fun e => c4 (by injection e))]
              refine iteF ⟨_, rfl, _, rfl, _, rfl, _, rfl, _, _, rfl, rfl, d, c, n + 1, ns, z, b, (by show [V.ref d, V.str z, V.int b, V.int (((k + 1 : Nat) : Int) - 1)] = _; rw [ek]), pen1, by omega, sz, b1, b8, fun v g H2 hg wf dg lg pen2 bb2 => ?_⟩
              refine ⟨_, rfl, (by show 2 ≤ sizeLine; decide), fun L nL => ?_⟩
              have sL := same_upd (o := .lst [.str "both", .str "either"]) nL
              have penL := pen2.keep sL
              refine ⟨d, c, n + 1 + cost b k, ns, _, rfl, penL, by omega, .inl ⟨L, _, rfl, upd_same, (by show 0 < 2; decide), (by show 2 < 1000000; decide), fun v2 H3 hv pen3 bb3 => ?_⟩⟩
              obtain ⟨kvs, _, _, pp⟩ := penL
              have hg3 := (hg.same sL).but bb3 pp.dc
              obtain ⟨w, rfl, hw⟩ : ∃ w : Nat, v2 = .str (nmP w) ∧ w < 2 := by
                simp only [List.mem_cons, List.not_mem_nil, or_false] at hv
                rcases hv with rfl | rfl
                · exact ⟨0, rfl, by decide⟩
                · exact ⟨1, rfl, by decide⟩
              have pen3' := pen3
              obtain ⟨kv3, _, _, pp3⟩ := pen3'
              refine ⟨_, rfl, _, rfl, _, rfl, _, rfl, _, rfl, _, _, rfl, rfl, d, c, n + 1 + cost b k + 1, ns, z, b, (by show [V.ref d, V.str z, V.int b, V.int (((k + 1 : Nat) : Int) - 1)] = _; rw [ek]), pen3, by omega, sz, b1, b8, fun v4 g4 H4 hg4 wf4 dg4 lg4 pen4 bb4 => ⟨(by show 3 ≤ sizeLine; decide), fun T nT => ?_⟩⟩
              have sT := same_upd (o := .tup [.str (nmP w), v, v4]) nT
              have hgT := (hg3.but bb4 pp3.dc).same sT
              exact q (.ref T) (.pair w g g4) _ ⟨hw, T, v, v4, rfl, upd_same, hgT, hg4.same sT⟩ ⟨wf, wf4⟩ (by show 1 + max g.dep g4.dep ≤ _; omega) (by show g.lv + g4.lv ≤ _; omega) ((pen4.keep sT).le (by omega)) (((((bb1.trans bb2).trans (But.same sL)).trans bb3).trans bb4).trans (But.same sT))
end
end LA
end
section
set_option Elab.async false
set_option linter.all false
set_option maxRecDepth 100000
set_option maxHeartbeats 4100000
namespace XK
open PySem PySem.Spec PyProof.Rows L2
/-! ### xs == [] and xs != [], whatever the list holds -/
section
variable {X : Cx}
def rNil (K : PySem.W.Frag) (neg : Bool) : R2 := fun x y H Q => ∃ (a b : Addr) (xs : List V), x = .ref a ∧ y = .ref b ∧ SqL K H a xs ∧ SqL K H b [] ∧ a ≠ b ∧ Q (.bl (xs.isEmpty != neg)) H
theorem nil_sides {pins : List (Addr × Obj)} {σ : L2.St} {H : Hp} {s : Shared} {a b : Addr} {xs : List V} (I : Inv X pins σ H s) (ha : SqL X.K H a xs) (hb : SqL X.K H b []) :
    ∃ us : Array Value, s.heap.IsList a us ∧ s.heap.IsList b #[] ∧ (us.size = 0 ↔ xs = []) := by
  obtain ⟨us, r1, l1, _⟩ := I.list ha
  obtain ⟨ws, r2, l2, _⟩ := I.list hb
  cases r2
  refine ⟨us.toArray, l1.isList, l2.isList, ?_⟩
  rw [List.size_toArray, ← r1.length]
  exact ⟨List.eq_nil_of_length_eq_zero, fun e => by rw [e]; rfl⟩
theorem op_eqNil (hu : X.A.units + 64 < cLine) : OpR X (compareOp .Eq) (rNil X.K false) := by
  intro pins s σ H x y v u Q I rx ry h
  obtain ⟨a, b, xs, rfl, rfl, ha, hb, ne, q⟩ := h
  cases rx
  cases ry
  obtain ⟨us, l1, l2, e⟩ := nil_sides I ha hb
  by_cases hs : us.size = 0
  · have ex := e.mp hs
    subst ex
    refine SeqAt.eq_listAt (e := fun _ => true) l1 l2 hs (by omega) (fun j h1 _ => absurd h1 (by omega)) ⟨.bl true, H, I, ?_, q⟩
    rw [hs]
    rfl
  · have nx : xs ≠ [] := fun z => hs (e.mpr z)
    refine SeqAt.eq_list_lengthsAt l1 l2 (bne_iff_ne.mpr hs) (by omega) ⟨.bl false, H, I, rfl, ?_⟩
    cases xs with
    | nil => exact absurd rfl nx
    | cons x0 xr => exact q
theorem op_neNil (hu : X.A.units + 64 < cLine) : OpR X (compareOp .NotEq) (rNil X.K true) := by
  intro pins s σ H x y v u Q I rx ry h
  obtain ⟨a, b, xs, rfl, rfl, ha, hb, ne, q⟩ := h
  cases rx
  cases ry
  obtain ⟨us, l1, l2, e⟩ := nil_sides I ha hb
  by_cases hs : us.size = 0
  · have ex := e.mp hs
    subst ex
    refine SeqAt.RcNeAt.lists (e := fun _ => true) l1 l2 hs (by omega) (fun j h1 _ => absurd h1 (by omega)) X.prog X.w _ _ ⟨.bl false, H, I, ?_, q⟩
    rw [hs]
    rfl
  · have nx : xs ≠ [] := fun z => hs (e.mpr z)
    refine SeqAt.RcNeAt.lists_lengths l1 l2 (bne_iff_ne.mpr hs) (by omega) X.prog X.w _ _ ⟨.bl true, H, I, rfl, ?_⟩
    cases xs with
    | nil => exact absurd rfl nx
    | cons x0 xr => exact q
end
end XK
end
section
set_option Elab.async false
set_option linter.all false
set_option maxRecDepth 100000
set_option maxHeartbeats 4100000
namespace XL
open PySem PySem.Spec PyProof.Rows L2 LamX XK
/-! ### a lambda kept as a value -/
/-- the very object at f -/
def FixO (ob : Obj) (f : Addr) : HO := .ext fun h => h.get? f = some ob
theorem fix_ok {P : Program} {w : World} {H : Hp} {h : Heap} {f : Addr} {ob : Obj} (e : h.get? f = some ob) : ObjOk P w H h f (FixO ob f) := ⟨e, ⟨_, e⟩, fun _ _ a b => b _ a⟩
/-- at f is the lambda with these parameters, this body and these cells -/
def IsLam (q : Str) (params : Arguments) (body : Expr) (scope : Scope) (cl : List (Str × Addr)) (H : Hp) (f : Addr) : Prop :=
  ∃ (c' : Addr) (pm ctv : Value), H f = some (FixO (PySem.W.kla_obj "<lambda>" q params body scope cl pm c' ctv) f) ∧ H c' = some (CodeO c' q)
theorem IsLam.keep {q : Str} {params : Arguments} {body : Expr} {scope : Scope} {cl : List (Str × Addr)} {H H' : Hp} {f : Addr} (h : IsLam q params body scope cl H f) (e : ∀ b o, H b = some o → (∃ φ, o = .ext φ) → H' b = some o) : IsLam q params body scope cl H' f := by
  obtain ⟨c', pm, ctv, h1, h2⟩ := h
  exact ⟨c', pm, ctv, e _ _ h1 ⟨_, rfl⟩, e _ _ h2 ⟨_, rfl⟩⟩
section
variable {X : Cx} {pins : List (Addr × Obj)} {σ : L2.St} {H : Hp} {s : Shared}
/-- lambda: body, made: the function is new and known, its code object is new or was known -/
theorem lam_kept {T : List (Addr × Str)} {c P : Addr} {params : Arguments} {body : Expr} {scope : Scope} {pos : Pos} {E : Value → Shared → Prop} {Q : Value → Shared → Prop} (I : Inv X pins σ H s) (TB : TabB X.base X.mg c P) (hcode : X.env.code = .ref c)
    (here : (P, X.env.qual ++ "<lambda>") ∈ T) (one : ∀ p ∈ T, p.1 = P → p.2 = X.env.qual ++ "<lambda>") (hT : Tabs T H) (nodef : defaultsOf params X.env = ([], [])) (caught : ∀ y ∈ scope.names, y.2 = .free → ∃ c, X.env.cells.lookup y.1 = some c)
    (go : ∀ (f : Addr) (H1 : Hp) (s' : Shared), Inv X pins σ H1 s' → ExtN H H1 → Tabs T H1 → H f = none → IsLam (X.env.qual ++ "<lambda>") params body scope (cloFrom X.env.cells scope.names []) H1 f → Q (.ref f) s') :
    wpAny (model X.prog X.w) X.A (eval (.Lambda params body scope pos) X.env) Q E s := by
  obtain ⟨ps, hP, three, among⟩ := hT _ here
  have tabAt : s.heap.get? P = some { cls := .none, data := .fields ps } := I.hok P _ hP
  have bP : s.heap.BuiltinsAt X.mg P := TB.bm.keeps I.bk
  refine PySem.W.kla_eval nodef ?_
  cases hit : codeAmong pos ps.toList with
  | some cv =>
    obtain ⟨c', rfl, hco⟩ := among pos cv hit
    refine PySem.W.kla_makeFunctionHit (mg := X.mg) (c := c) (P := P) (ps := ps) (closure_ok caught) I.ok.glob (I.mod.glob.keeps I.bk) hcode (TB.code.keeps I.bk) tabAt three hit bP fun ctv h' tk old big => ?_
    have nf : H h'.objs.size = none := I.hok.fresh big
    have neC : c' ≠ h'.objs.size := ne_of_none hco nf
    have neP : ∀ p ∈ T, p.1 ≠ h'.objs.size := fun p hp => by
      obtain ⟨_, a1, _⟩ := hT p hp
      exact ne_of_none a1 nf
    have J : Inv X pins σ (upd H h'.objs.size (FixO (PySem.W.kla_obj "<lambda>" (X.env.qual ++ "<lambda>") params body scope (cloFrom X.env.cells scope.names []) ((X.mg "__name__").getD .none) c' ctv) h'.objs.size)) _ :=
      I.laid (t' := tk) (h' := h'.push (PySem.W.kla_obj "<lambda>" (X.env.qual ++ "<lambda>") params body scope (cloFrom X.env.cells scope.names []) ((X.mg "__name__").getD .none) c' ctv)) (fun b u e => Heap.get?_push_of_some _ (old b u e)) big (fix_ok (Heap.get?_push_size _ rfl))
    have ext : ∀ b o, H b = some o → upd H h'.objs.size (FixO (PySem.W.kla_obj "<lambda>" (X.env.qual ++ "<lambda>") params body scope (cloFrom X.env.cells scope.names []) ((X.mg "__name__").getD .none) c' ctv) h'.objs.size) b = some o := fun b o e => by
      rw [upd_ne (ne_of_none e nf)]
      exact e
    exact go _ _ _ J (.of ext) (hT.ext ext) nf ⟨c', _, ctv, upd_same, ext _ _ hco⟩
  | none =>
    refine PySem.W.kla_makeFunction (mg := X.mg) (c := c) (P := P) (ps := ps) (closure_ok caught) I.ok.glob (I.mod.glob.keeps I.bk) hcode (TB.code.keeps I.bk) tabAt three hit TB.gP bP fun c' ctv h' tk old hge hlt rec htb => ?_
    obtain ⟨c2, oc, vs, t, e2, hoc, hd, hv⟩ := rec
    cases e2
    have nC : H c' = none := I.hok.fresh hge
    have big : s.heap.objs.size ≤ h'.objs.size := Nat.le_trans hge (Nat.le_of_lt hlt)
    have I1 := inv_table (t' := tk) (more := #[rawInt pos.line, rawInt pos.col, .ref c']) (h' := h') I hP old htb hge ⟨oc, vs, t, hoc, hd, hv⟩
    have nf : H h'.objs.size = none := I.hok.fresh big
    have neC : c' ≠ h'.objs.size := Nat.ne_of_lt hlt
    have atP : P ≠ c' := ne_of_none hP nC
    have neP : P ≠ h'.objs.size := ne_of_none hP nf
    generalize hob : PySem.W.kla_obj "<lambda>" (X.env.qual ++ "<lambda>") params body scope (cloFrom X.env.cells scope.names []) ((X.mg "__name__").getD .none) c' ctv = ob
    have J : Inv X pins σ (upd (upd (upd H P (.tbl (ps ++ #[rawInt pos.line, rawInt pos.col, .ref c']))) c' (CodeO c' (X.env.qual ++ "<lambda>"))) h'.objs.size (FixO ob h'.objs.size)) { s with heap := h'.push ob, toks := tk } :=
      I1.laid (t' := tk) (h' := h'.push ob) (fun b u e => Heap.get?_push_of_some _ e) (Nat.le_refl _) (fix_ok (Heap.get?_push_size _ (by rw [← hob]; rfl)))
    generalize hZ : upd (upd (upd H P (.tbl (ps ++ #[rawInt pos.line, rawInt pos.col, .ref c']))) c' (CodeO c' (X.env.qual ++ "<lambda>"))) h'.objs.size (FixO ob h'.objs.size) = Z at J
    have kN : ExtN H Z := fun b o e n => by
      have b1 : b ≠ P := fun z => n ps (Option.some.inj (e.symm.trans (by rw [z]; exact hP)))
      rw [← hZ, upd_ne (ne_of_none e nf), upd_ne (ne_of_none e nC), upd_ne b1]
      exact e
    have zC : Z c' = some (CodeO c' (X.env.qual ++ "<lambda>")) := by rw [← hZ, upd_ne neC, upd_same]
    have zP : Z P = some (.tbl (ps ++ #[rawInt pos.line, rawInt pos.col, .ref c'])) := by rw [← hZ, upd_ne neP, upd_ne atP, upd_same]
    refine go _ Z _ J kN (fun p hp => ?_) nf ⟨c', _, ctv, by rw [← hZ, upd_same, ← hob], zC⟩
    by_cases hb : p.1 = P
    · rw [one p hp hb, hb]
      refine ⟨_, zP, by
        rw [show (ps ++ #[rawInt pos.line, rawInt pos.col, .ref c']).toList = ps.toList ++ [rawInt pos.line, rawInt pos.col, .ref c'] by simp]
        exact PySem.TriplesOk_snoc _ _ _ _ three, fun p' cv hcv => ?_⟩
      rw [show (ps ++ #[rawInt pos.line, rawInt pos.col, .ref c']).toList = ps.toList ++ [rawInt pos.line, rawInt pos.col, .ref c'] by simp] at hcv
      rcases among_app _ three hcv with z | z
      · obtain ⟨c0, e1, e2⟩ := among p' cv z
        exact ⟨c0, e1, kN _ _ e2 codeO_ne⟩
      · exact ⟨c', z, zC⟩
    · obtain ⟨qs, a1, a2, a3⟩ := hT p hp
      refine ⟨qs, ?_, a2, fun p' cv hcv => ?_⟩
      · rw [← hZ, upd_ne (ne_of_none a1 nf), upd_ne (ne_of_none a1 nC), upd_ne hb]
        exact a1
      · obtain ⟨c0, e1, e2⟩ := a3 p' cv hcv
        exact ⟨c0, e1, kN _ _ e2 codeO_ne⟩
end
/-- lambda: body, as a value -/
def tMk (T : List (Addr × Str)) (q : Str) (params : Arguments) (body : Expr) (scope : Scope) (cl : List (Str × Addr)) : TE := fun _ H Q =>
  Tabs T H ∧ ∀ (f : Addr) (H1 : Hp), ExtN H H1 → Tabs T H1 → H f = none → IsLam q params body scope cl H1 f → Q (.ref f) H1
/-- what the making of lambdas asks of the def -/
structure Maker (X : Cx) (T : List (Addr × Str)) (c P : Addr) : Prop where
  tb : TabB X.base X.mg c P
  code : X.env.code = .ref c
  here : (P, X.env.qual ++ "<lambda>") ∈ T
  one : ∀ p ∈ T, p.1 = P → p.2 = X.env.qual ++ "<lambda>"
theorem pe_mk {X : Cx} {T : List (Addr × Str)} {c P : Addr} {params : Arguments} {body : Expr} {scope : Scope} {pos : Pos} (M : Maker X T c P) (L : LamS X.env.scope scope) (nodef : defaultsOf params X.env = ([], [])) :
    PE X (.Lambda params body scope pos) (tMk T (X.env.qual ++ "<lambda>") params body scope (cloFrom X.env.cells scope.names [])) := by
  refine ⟨fun pins s σ H Q I h => ?_⟩
  obtain ⟨hT, h⟩ := h
  exact lam_kept I M.tb M.code M.here M.one hT nodef (L.has I.ok) fun f H1 s' I1 x1 x2 x3 x4 => ⟨.ref f, H1, I1, rfl, h f H1 x1 x2 x3 x4⟩
end XL
end
section
set_option Elab.async false
set_option linter.all false
set_option maxRecDepth 100000
set_option maxHeartbeats 4100000
namespace XL
open PySem PySem.Spec PyProof.Rows L2 LamX XK
/-! ### what a def's cells hold, told of any later heap -/
structure Caps (X : Cx) (σ : L2.St) (H : Hp) (h : Heap) : Prop where
  ok : X.Ok
  len : σ.length = X.N.length
  cell : ∀ y c, X.env.cells.lookup y = some c → (∃ v, h.IsCell c v) ∧ H c = none
  val : ∀ (i : Nat) (y : Str) (v : V), X.N[i]? = some y → σ[i]? = some (some v) → Vis X.env.scope y → X.env.scope.names.lookup y ≠ some .local → ∃ u c, RelV v u ∧ X.env.cells.lookup y = some c ∧ h.IsCell c (some u)
section
variable {X : Cx} {pins : List (Addr × Obj)} {σ : L2.St} {H H' : Hp} {s : Shared} {h h' : Heap}
theorem Caps.of (I : Inv X pins σ H s) : Caps X σ H s.heap := by
  refine ⟨I.ok, I.len, fun y c e => ⟨I.cell y c e, I.freeC y c e⟩, fun i y v e1 e2 vis nl => ?_⟩
  obtain ⟨m, _, tell⟩ := I.loc
  obtain ⟨u, r, q⟩ := tell i y v e1 e2 vis
  cases q with
  | inl z => exact absurd z.1 nl
  | inr z =>
    obtain ⟨_, c, e, ic⟩ := z
    exact ⟨u, c, r, e, ic⟩
theorem Caps.go {fs ex : List Addr} (C : Caps X σ H h) (un : Un fs ex H H' h h') (out : ∀ y c, X.env.cells.lookup y = some c → c ∉ ex) : Caps X σ H' h' := by
  have stays : ∀ y c v, X.env.cells.lookup y = some c → h.IsCell c v → h'.IsCell c v := fun y c v e ⟨o, ho, hd⟩ => by
    obtain ⟨sl, q⟩ := un.any ho (C.cell y c e).2 (out y c e)
    exact ⟨_, q, hd⟩
  refine ⟨C.ok, C.len, fun y c e => ?_, fun i y v e1 e2 vis nl => ?_⟩
  · obtain ⟨⟨v, ic⟩, n⟩ := C.cell y c e
    have ⟨o, ho, _⟩ := ic
    exact ⟨⟨v, stays y c v e ic⟩, un.free c o ho n (out y c e)⟩
  · obtain ⟨u, c, r, e, ic⟩ := C.val i y v e1 e2 vis nl
    exact ⟨u, c, r, e, stays y c _ e ic⟩
/-- the lambda's body begins -/
theorem Caps.start {A : Around} {outer : List Env} {E : XK} {scope : Scope} {f c' : Addr} {h₁ : Heap} {tk : Nat} (C : Caps X σ H s.heap) (L : LamS X.env.scope scope) (e0 : Env0 X.prog X.w X.K X.mg X.base A outer s H) (calm : A.handled = none)
    (new : h₁.Ns s.heap.objs.size fun y => ([] : List (Str × Value)).reverse.lookup y) (kp : ∀ b o, s.heap.get? b = some o → h₁.get? b = some o) :
    Inv (lamCx X A outer s H E scope f c') [] σ H { s with heap := h₁, toks := tk } := by
  have up : ∀ {y c}, (cloFrom X.env.cells scope.names []).lookup y = some c → X.env.cells.lookup y = some c ∧ (y, NameKind.free) ∈ scope.names := fun {y c} e => by
    rcases cloFrom_mem (PySem.mem_of_lookup e) with z | ⟨z1, z2⟩
    · cases z
    · obtain ⟨c1, k⟩ := L.has C.ok _ z1 rfl
      refine ⟨?_, z1⟩
      have k : X.env.cells.lookup y = some c1 := k
      have z3 : c = c1 := by rw [z2, k] <;> rfl
      rw [z3]
      exact k
  have down : ∀ {y}, scope.names.lookup y = some .free → ∃ c, (cloFrom X.env.cells scope.names []).lookup y = some c := fun {y} k => mem_lookup (cloFrom_has (cells := X.env.cells) (acc := []) (PySem.mem_of_lookup k))
  have cK : ∀ {c v}, s.heap.IsCell c v → h₁.IsCell c v := fun {c v} ⟨o, a, b⟩ => ⟨o, kp _ _ a, b⟩
  have none_ : ∀ b : Addr, b ∉ (lamCx X A outer s H E scope f c').ex := fun b z => absurd (show b ∈ ([] : List Addr) from z) (by simp)
  have nocell : ∀ {y}, scope.names.lookup y ≠ some .cell := fun {y} k => (L.own _ (PySem.mem_of_lookup k)).2 rfl
  have nolocal : ∀ {y}, scope.names.lookup y ≠ some .local := fun {y} k => (L.own _ (PySem.mem_of_lookup k)).1 rfl
  refine ⟨⟨e0.mod, L.kind, rfl, rfl, Nat.le_refl _, fun y z c a b => C.ok.inj y z c (up a).1 (up b).1, fun y hy => ?_, fun y c z _ => (by cases (show false = true from z)), fun _ => calm, Around.frames_deeper e0.frames, .inr ⟨rfl, rfl⟩, fun b z => absurd z (none_ b), e0.bs, e0.bsz, fun b _ _ => none_ b,
    fun b z => absurd z (none_ b), e0.funs, e0.frf⟩, rfl, e0.bare, Un.kept kp, ⟨_, new, fun i y v a b vis => ?_⟩, fun y c e => ?_, e0.hok.fresh (Nat.le_refl _), fun y c e => (C.cell y c (up e).1).2, fun q z => absurd (show q ∈ ([] : List (Addr × Obj)) ++ [] from z) (by simp), e0.hok.kept kp, C.len⟩
  · rcases (show scope.names.lookup y = some .cell ∨ scope.names.lookup y = some .free from hy) with k | k
    · exact absurd k nocell
    · exact down k
  · rcases (show Vis scope y from vis) with k | k | k
    · exact absurd k nolocal
    · exact absurd k nocell
    · have mine := L.free _ (PySem.mem_of_lookup k) rfl
      have nl : X.env.scope.names.lookup y ≠ some .local := fun z => by
        rcases mine with k2 | k2 <;> rw [show X.env.scope.names.lookup y = _ from k2] at z <;> cases z
      obtain ⟨u, c, r, e, ic⟩ := C.val i y v a b (mine.elim (fun k => .inr (.inl k)) fun k => .inr (.inr k)) nl
      obtain ⟨c2, e2⟩ := down k
      obtain rfl : c = c2 := Option.some.inj (e.symm.trans (up e2).1)
      exact ⟨u, r, .inr ⟨.inr k, c, e2, cK ic⟩⟩
  · obtain ⟨⟨v, ic⟩, _⟩ := C.cell y c (up e).1
    exact ⟨v, cK ic⟩
/-- a(), within a def that got the lambda as its slot i: that def was entered at s and H, where the maker's cells are known -/
theorem pe_does {CXg : CXT} {Eg : XK} {Ng : List Str} {qg q : Str} {sg : Scope} {g f : Addr} {cdg : Value} {params : Arguments} {body : Expr} {scope : Scope} {k i : Nat} {a : Str} {pn : List (Addr × Obj)} {xe : Value → Shared → Prop} {W : WX} {E : XK} {tb : TE} {p1 p2 : Pos}
    (C : Caps X σ H s.heap) (L : LamS X.env.scope scope) (eq_ : q = X.env.qual ++ "<lambda>")
    (noargs : ∀ (cl : List (Str × Addr)) (pm cv ctv : Value), bindArgs (PySem.W.kla_fn "<lambda>" q params body scope cl pm cv ctv) ⟨[], []⟩ = pure [])
    (tk : Takes ((cxOf CXg X.prog X.w X.K X.mg X.base Ng qg sg g cdg X.A X.stack s H Eg).tr pn xe) W) (hW : ∀ cls d σ' H', E cls d H' → W cls d σ' H') (room : Room (k + 1) (X.A.deeper (envOfC qg sg s.heap.objs.size g cdg)))
    (does : ∀ (A : Around) (outer : List Env) (s : Shared) (H : Hp) (f c' : Addr), Room k (A.deeper (lamEnv X scope s.heap.objs.size f c')) → PE (lamCx X A outer s H E scope f c') body tb)
    (hN : Ng[i]? = some a) (hv : Vis sg a) (hd : (a == ("__debug__" : Str)) = false := by decide) (hcd : (a == ("__classdict__" : Str)) = false := by decide) :
    PE ((cxOf CXg X.prog X.w X.K X.mg X.base Ng qg sg g cdg X.A X.stack s H Eg).tr pn xe) (.Call (.Name a p1) [] [] p2)
      (fun σZ HZ Q => σZ[i]? = some (some (.ref f)) ∧ IsLam q params body scope (cloFrom X.env.cells scope.names []) HZ f ∧ tb σ HZ Q) := by
  subst eq_
  refine ⟨fun pinsZ sZ σZ HZ Q IZ want => ?_⟩
  obtain ⟨slot, ⟨c', pm, ctv, lf, lc⟩, rd⟩ := want
  refine wpAny_Call_Name_kw (thn ((pe_var (pos := p1) (i := i) hN hv hd hcd).run pinsZ sZ σZ HZ (fun v H1 => v = .ref f ∧ H1 = HZ) IZ ⟨.ref f, slot, rfl, rfl⟩) fun u s1 got => ?_)
  obtain ⟨v, H1, I1, rel, rfl, rfl⟩ := got
  obtain rfl : u = Value.ref f := rel
  have obj : s1.heap.get? f = some (PySem.W.kla_obj "<lambda>" (X.env.qual ++ "<lambda>") params body scope (cloFrom X.env.cells scope.names []) pm c' ctv) := (show ObjOk _ _ H1 s1.heap f (FixO _ f) from I1.hok f _ lf).1
  refine PySem.W.callWith_F0 ⟨_, _, _, _, obj⟩ ?_
  obtain ⟨⟨oc, vs, t, hoc, hdc, hvc⟩, _, _⟩ := I1.hok c' _ lc
  have C1 : Caps X σ H1 s1.heap := C.go I1.base fun _ c _ z => absurd (show c ∈ ([] : List Addr) from z) (by simp)
  have run : codeAny (model X.prog X.w) (X.A.deeper (envOfC qg sg s.heap.objs.size g cdg)) (.call (.ref f) ⟨[], []⟩) (CR (L2.CX X.prog X.w) (envOfC qg sg s.heap.objs.size g cdg :: X.stack) X.prog X.w H1 s1 Q E) s1 := by
    refine PySem.W.kla_callFunE room.depth obj rfl L.co L.gen rfl ⟨c', oc, vs, t, rfl, hoc, hdc, hvc⟩ ?_
    rw [noargs]
    refine wpAny_pure (wpAny_newFunctionEnv (fun y hy => (L.own y hy).2) (fun y hy => absurd hy (by simp)) (fun h₁ hns hsb => ⟨I1.nolimit.fresh _ hsb, ?_⟩) L.kind)
    show codeAny _ _ (.expr body (lamEnv X scope s1.heap.objs.size f c')) _ _
    have kp : ∀ b o, s1.heap.get? b = some o → h₁.get? b = some o := fun b o e => hsb.extBut b o (Nat.ne_of_lt (Heap.lt_size e)) (Heap.get?_push_of_some _ e)
    have J : Inv (lamCx X (X.A.deeper (envOfC qg sg s.heap.objs.size g cdg)) (envOfC qg sg s.heap.objs.size g cdg :: X.stack) s1 H1 E scope f c') [] σ H1 { s1 with heap := h₁, toks := s1.toks + ([] : List (Str × Value)).length } := C1.start L I1.env0 room.hd hns kp
    refine PySem.W.kla_codeExpr (wpAny_mono ((does _ _ s1 H1 _ _ (room.deeper _)).run [] _ _ H1 Q J rd) (fun v s' res => ?_) fun _ _ res => res)
    obtain ⟨y, H', J', rv, q⟩ := res
    exact ⟨y, H', J'.os, J'.bare, J'.base, J'.hok, rv, q⟩
  refine wpAny_call (codeAny_mono run fun r s' res => ?_)
  cases r with
  | error e => exact passes_call (X := (cxOf CXg X.prog X.w X.K X.mg X.base Ng qg sg g cdg X.A X.stack s H Eg).tr pn xe) tk hW pinsZ σZ H1 s1 e s' I1 res
  | ok fl =>
    cases fl with
    | ret u => exact I1.after res
    | next => exact False.elim res
    | brk => exact False.elim res
    | cont => exact False.elim res
end
end XL
end
section
set_option Elab.async false
set_option linter.all false
set_option maxRecDepth 100000
set_option maxHeartbeats 4100000
namespace XL
open PySem PySem.Spec PyProof.Rows L2 LamX XK
/-! ### a def that is handed a lambda and calls it -/
/-- what the def at g makes of a lambda that it gets: TT, of the reading of what the lambda does -/
def Gets (X : Cx) (Ng : List Str) (x : Str) (sg : Scope) (g : Addr) (cdg : Value) (bg : List Stmt) (a : Str) (TT : (XK → Hp → VK → Prop) → Hp → VK → Prop) : Prop :=
  ∀ (LP : Hp → Addr → Prop) (f : Addr) (s : Shared) (H : Hp) (Q : VK) (tl : XK → Hp → VK → Prop),
    (∀ (W : WX) (pn : List (Addr × Obj)) (xe : Value → Shared → Prop) (E : XK) (p1 p2 : Pos), Takes ((cxOf C8.CX0 X.prog X.w X.K X.mg X.base Ng x sg g cdg X.A X.stack s H C8.E0).tr pn xe) W → (∀ cls d σ' H', E cls d H' → W cls d σ' H') →
      PE ((cxOf C8.CX0 X.prog X.w X.K X.mg X.base Ng x sg g cdg X.A X.stack s H C8.E0).tr pn xe) (.Call (.Name a p1) [] [] p2) (fun σZ HZ Q => σZ[0]? = some (some (.ref f)) ∧ LP HZ f ∧ tl E HZ Q)) →
    LP H f → TT tl H Q →
    ∃ t, PSs (cxOf C8.CX0 X.prog X.w X.K X.mg X.base Ng x sg g cdg X.A X.stack s H C8.E0).nox bg t ∧ t { nx := fun _ H' => Q .non H', rt := Q } (L2.start Ng [.ref f]) H
/-- two contexts of one def: alike in all that a call looks at -/
structure Kin (X Y : Cx) : Prop where
  prog : Y.prog = X.prog
  w : Y.w = X.w
  K : Y.K = X.K
  mg : Y.mg = X.mg
  base : Y.base = X.base
  A : Y.A = X.A
  stack : Y.stack = X.stack
theorem Kin.refl (X : Cx) : Kin X X := ⟨rfl, rfl, rfl, rfl, rfl, rfl, rfl⟩
/-- the def that is handed the lambda -/
structure Taker (X : Cx) (x a : Str) (g : Addr) (Ng : List Str) (sg : Scope) (cdv : Value) (bg : List Stmt) (TT : (XK → Hp → VK → Prop) → Hp → VK → Prop) : Prop where
  m : X.mg x = some (.ref g)
  k : PySem.W.keepIn X.K (.ref g) = true
  fn : ∃ (pg : Arguments) (dV kV doc pm ct oc : Value) (an od : Option Addr) (osl : Array (Option Value)),
    X.K.lookup g = some ⟨oc, od, .func (PySem.W.fnOf x x pg bg sg dV kV doc pm an cdv ct), osl⟩ ∧ L2.Binds X.K (PySem.W.fnOf x x pg bg sg dV kV doc pm an cdv ct) [a] []
  cd : PySem.W.codeIn X.K cdv x = true
  S : FnScope Ng [a] sg
  n0 : Ng[0]? = some a
  v0 : Vis sg a
  gets : Gets X Ng x sg g cdv bg a TT
/-- the reading of x(e): e is a lambda, and what x makes of it -/
def tGo (q : Str) (params : Arguments) (body : Expr) (scope : Scope) (cl : List (Str × Addr)) (M : L2.St → L2.St) (TT : (XK → Hp → VK → Prop) → Hp → VK → Prop) (t : XK → TE) (ta : TA) : TE := fun σ H Q =>
  ta σ H fun vs H1 => ∃ f, vs = [.ref f] ∧ IsLam q params body scope cl H1 f ∧ TT (fun E H' Q' => t E (M σ) H' Q') H1 Q
theorem pe_go {X Y : Cx} (kin : Kin X Y) {M : L2.St → L2.St} {x a q : Str} {g : Addr} {Ng : List Str} {sg : Scope} {cdv : Value} {bg : List Stmt} {TT : (XK → Hp → VK → Prop) → Hp → VK → Prop} {params : Arguments} {body : Expr} {scope : Scope} {k : Nat} {t : XK → TE} {e : Expr} {ta : TA} {p pos : Pos}
    (caps : ∀ pins σ H s, Inv Y pins σ H s → Caps X (M σ) H s.heap) (G : Taker X x a g Ng sg cdv bg TT) (L : LamS X.env.scope scope) (eq_ : q = X.env.qual ++ "<lambda>") (room : Room (k + 2) X.A)
    (noargs : ∀ (cl : List (Str × Addr)) (pm cv ctv : Value), bindArgs (PySem.W.kla_fn "<lambda>" q params body scope cl pm cv ctv) ⟨[], []⟩ = pure [])
    (does : ∀ (A : Around) (outer : List Env) (s : Shared) (H : Hp) (E : XK) (f c' : Addr), Room k (A.deeper (lamEnv X scope s.heap.objs.size f c')) → PE (lamCx X A outer s H E scope f c') body (t E))
    (ha : PA Y [e] ta) (hg : Gl Y x) (hdb : (x == ("__debug__" : Str)) = false := by decide) (hd : (a == ("__debug__" : Str)) = false := by decide) (hcd : (a == ("__classdict__" : Str)) = false := by decide)
    (he : starEach [e] Y.env = (false, eval e Y.env) :: starEach [] Y.env := by rfl) (hpl : (backTo pos (starEach [] Y.env)).any (·.1) = false := by rfl) :
    PE Y (.Call (.Name x p) [e] [] pos) (tGo q params body scope (cloFrom X.env.cells scope.names []) M TT t ta) := by
  refine ⟨fun pins s σ H Q I want => ?_⟩
  obtain ⟨pg, dV, kV, doc, pm, ct, oc, an, od, osl, lk, hb⟩ := G.fn
  have mY : Y.mg x = some (.ref g) := by rw [kin.mg]; exact G.m
  have kY : PySem.W.keepIn Y.K (.ref g) = true := by rw [kin.K]; exact G.k
  refine wpAny_Call_Name_kw (ld_glob I hg mY ?_ hdb)
  refine PySem.W.callWith_K (h₀ := Y.base) I.ok.mod.kin kY (thn (ha.run pos pins s σ H _ I want) fun us s1 got => ?_) he hpl
  obtain ⟨vs, H1, I1, rel, f, rfl, lam, rd⟩ := got
  refine ⟨I1.kIn, ?_⟩
  have eu : us = [.ref f] := by
    cases rel with
    | cons r rn =>
      cases rn
      rw [show _ = Value.ref f from r]
  subst eu
  have C1 := caps _ _ _ _ I1
  have env : Env0 X.prog X.w X.K X.mg X.base X.A X.stack s1 H1 := by
    have z := I1.env0
    rw [kin.prog, kin.w, kin.K, kin.mg, kin.base, kin.A, kin.stack] at z
    exact z
  have kI : X.K.In s1.heap := by
    have z := I1.kIn
    rw [kin.K] at z
    exact z
  have run : codeAny (model X.prog X.w) X.A (.call (.ref g) ⟨[.ref f], []⟩) (CR C8.CX0 X.stack X.prog X.w H1 s1 Q C8.E0) s1 := by
    refine run_ofS (N := Ng) (ps := [a]) (us := [.ref f]) (vs := [.ref f]) lk G.cd G.S room env (hb s1 [.ref f] kI rfl) (.cons rfl .nil) rfl fun room' => ?_
    obtain ⟨t', ht', hq'⟩ := G.gets (fun H f => IsLam q params body scope (cloFrom X.env.cells scope.names []) H f) f s1 H1 Q (fun E H' Q' => t E (M σ) H' Q')
      (fun W pn xe E p1 p2 tk hW => pe_does (i := 0) C1 L eq_ noargs tk hW room' (fun A outer s H f c' r => does A outer s H E f c' r) G.n0 G.v0 hd hcd) lam rd
    exact ⟨t', ht'.nox, hq'⟩
  rw [kin.prog, kin.w, kin.A]
  refine wpAny_call (codeAny_mono run fun r s2 res => ?_)
  cases r with
  | error e => exact (show False from res).elim
  | ok fl =>
    cases fl with
    | ret u =>
      have res' : CE Y.stack Y.prog Y.w H1 s1 Q u s2 := by
        rw [kin.prog, kin.w, kin.stack]
        exact res
      exact I1.after res'
    | next => exact False.elim res
    | brk => exact False.elim res
    | cont => exact False.elim res
end XL
end
section
set_option Elab.async false
set_option linter.all false
set_option maxRecDepth 100000
set_option maxHeartbeats 4100000
namespace XK
open PySem PySem.Spec PyProof.Rows L2
/-! ### a def that is called where no repr is under way -/
section
variable {P : Program} {w : World} {K : PySem.W.Frag} {mg : Str → Option Value} {base : Heap} {CX : CXT} {k : Nat} {f : Addr} {fd : FuncData} {N ps : List Str} {sp : Sp}
structure AtG (P : Program) (w : World) (K : PySem.W.Frag) (mg : Str → Option Value) (base : Heap) (CX : CXT) (k : Nat) (f : Addr) (fd : FuncData) (ps : List Str) (sp : Sp) : Prop where
  len : ∀ vs H Q E, sp vs H Q E → vs.length = ps.length
  go : ∀ (A : Around) (outer : List Env) (s : Shared) (H : Hp) (args : Args) (us : List Value) (vs : List V) (Q : VK) (E : XK), A.guards = some [] → Room k A → Env0 P w K mg base A outer s H → BindsTo s fd args (ps.zip us) → Vals vs us → sp vs H Q E →
    codeAny (model P w) A (.call (.ref f) args) (CR CX outer P w H s Q E) s
theorem atG {x qual : Str} {st : Stmt} (F : Fun K x qual st f fd) (S : FnScope N ps (defScope st)) (len : ∀ vs H Q E, sp vs H Q E → vs.length = ps.length)
    (body : ∀ (cdv : Value) (A : Around) (outer : List Env) (s : Shared) (H : Hp) (vs : List V) (Q : VK) (E : XK), A.guards = some [] → Room k (A.deeper (envOfC qual (defScope st) s.heap.objs.size f cdv)) → sp vs H Q E →
      ∃ t, PSs (cxOf CX P w K mg base N qual (defScope st) f cdv A outer s H E).nox (defBody st) t ∧ t { nx := fun _ H' => Q .non H', rt := Q } (start N vs) H) :
    AtG P w K mg base CX (k + 1) f fd ps sp := by
  obtain ⟨oc, od, kV, doc, pm, an, cdv, ct, osl, rfl, lk, hcd⟩ := F.ex
  refine ⟨len, fun A outer s H args us vs Q E quiet room env bind rel want => ?_⟩
  have count := len _ _ _ _ want
  have inn : K.In s.heap := env.mod.kin.keeps fun b o e => (env.bs b o e).1
  have lim : s.heap.NoLimit := env.mod.nolimit.keeps fun b o e => (env.bs b o e).1
  have kinds : ∀ y ∈ ps.zip us, (defScope st).names.lookup y.1 = some .local ∨ ((defScope st).names.lookup y.1 = some .cell ∧ ((cellsFrom (s.heap.objs.size + 1) (defScope st).names []).lookup y.1).isSome = true) := by
    intro y hy
    rcases S.par y.1 (List.of_mem_zip hy).1 with q | q
    · exact .inl q
    · exact .inr ⟨q, PySem.W.cellsFrom_some _ _ _ (.inl q)⟩
  refine codeAny_call_function room.depth (inn _ _ lk) rfl S.co S.gen rfl (PySem.W.codeRec_of inn hcd) (bind _ _ _ _ ?_)
  refine wpAny_newFunctionEnv_cells S.kind kinds fun en hen s1 entered => ?_
  subst hen
  refine ⟨lim.keeps entered.toInCall.keep, codeAny_func ?_⟩
  obtain ⟨t, der, rd⟩ := body cdv A outer s H vs Q E quiet (room.deeper _) want
  have I0 : Inv (cxOf CX P w K mg base N qual (defScope st) f cdv A outer s H E) [] (start N vs) H s1 := inv_start S room.hd env count rel entered
  refine wpAny_mono (der.nox.run [] s1 (start N vs) H _ I0 rd) (fun flow s' res => ?_) fun _ _ res => res
  cases flow with
  | ret u =>
    obtain ⟨v, σ', H', J, rv, q⟩ := res
    exact ⟨v, H', J.os, J.bare, J.base, J.hok, rv, q⟩
  | next =>
    obtain ⟨σ', H', J, q⟩ := res
    exact ⟨V.non, H', J.os, J.bare, J.base, J.hok, rfl, q⟩
  | brk =>
    obtain ⟨_, _, _, no⟩ := res
    exact no.elim
  | cont =>
    obtain ⟨_, _, _, no⟩ := res
    exact no.elim
variable {X : Cx} {x : Str} {e : Expr} {es : List Expr} {t : TA} {p pos : Pos}
/-- such a def, called -/
theorem pe_callG (F : AtG X.prog X.w X.K X.mg X.base CX k f fd ps sp) (quiet : X.A.guards = some []) (hr : Room k X.A) (hg : Gl X x) (hm : X.mg x = some (.ref f)) (hk : PySem.W.keepIn X.K (.ref f) = true) (hb : Binds X.K fd ps []) {E : XK} (hx : Passes CX X E)
    (ha : PA X (e :: es) t) (hdb : (x == ("__debug__" : Str)) = false := by decide) (he : starEach (e :: es) X.env = (false, eval e X.env) :: starEach es X.env := by rfl) (hpl : (backTo pos (starEach es X.env)).any (·.1) = false := by rfl) :
    PE X (.Call (.Name x p) (e :: es) [] pos) (fun σ H Q => t σ H fun vs H1 => sp vs H1 Q E) := by
  refine ⟨fun pins s σ H Q I h => ?_⟩
  refine wpAny_Call_Name_kw (ld_glob I hg hm ?_ hdb)
  refine PySem.W.callWith_K (h₀ := X.base) I.ok.mod.kin hk (thn (ha.run pos pins s σ H _ I h) fun us s1 ⟨vs, H1, I1, r, q⟩ => ⟨I1.kIn, ?_⟩) he hpl
  have hl := F.len _ _ _ _ q
  refine wpAny_call (codeAny_mono (F.go X.A X.stack s1 H1 ⟨us, []⟩ us vs _ E quiet hr I1.env0 (by
    have := hb s1 us I1.kIn (by rw [List.append_nil, ← r.length]; exact hl)
    simpa using this) r q) fun res s' hq => ?_)
  cases res with
  | error e => exact hx pins σ H1 s1 e s' I1 hq
  | ok fl =>
    cases fl with
    | ret u => exact I1.after hq
    | next => exact False.elim hq
    | brk => exact False.elim hq
    | cont => exact False.elim hq
end
end XK
end
section
set_option Elab.async false
set_option linter.all false
set_option maxRecDepth 100000
set_option maxHeartbeats 4100000
namespace XK
open PySem PySem.Spec PyProof.Rows L2
/-! ### several clauses 'except x as n' -/
abbrev Hnd := Value × Nat × (Addr → Value → Option Addr → TS)
/-- the ends of a suite whose slot i is let go -/
def lets (D : Ends) (i : Nat) : Ends := { nx := fun σ' H' => D.nx (σ'.set i none) H', rt := D.rt, bk := fun σ' H' => D.bk (σ'.set i none) H', ct := fun σ' H' => D.ct (σ'.set i none) H' }
def wAll (K : PySem.W.Frag) (Wo : WX) (D : Ends) : List Hnd → WX
  | [] => Wo
  | (c, i, ts) :: r => fun cls d σ H =>
    ∃ b, PySem.W.exmOne K cls c = some b ∧ (b = true → ∀ a, H a = none → ts a cls d (lets D i) (σ.set i (some (.ref a))) H) ∧ (b = false → wAll K Wo D r cls d σ H)
inductive AsOk (X : Cx) : List ExceptHandler → List Hnd → Prop
  | nil : AsOk X [] []
  | cons {x n : Str} {c : Value} {i : Nat} {ts : Addr → Value → Option Addr → TS} {b0 : Stmt} {su : List Stmt} {pn pz : Pos} {hs : List ExceptHandler} {l : List Hnd} (nm : Names X x c) (at_ : X.N[i]? = some n) (lc : X.env.kindOf n = some .local)
      (go : ∀ (a : Addr) (oe : Obj) (cls : Value) (d : Option Addr) (pn : List (Addr × Obj)), Zc cls d oe → (∃ vs, oe.data = .fields vs) → PSs (X.suite a ((a, oe) :: pn)) (b0 :: su) (ts a cls d)) (r : AsOk X hs l) :
      AsOk X (.ExceptHandler (some (.Name x pn)) (some n) (b0 :: su) pz :: hs) ((c, i, ts) :: l)
section
variable {X : Cx} {body : List Stmt} {h1 : ExceptHandler} {hs : List ExceptHandler} {l : List Hnd} {pos : Pos} {tb : WX → TS} {Wo : WX}
theorem ps_try_ases (st : X.stack = X.env :: X.outer) (fr : X.env.frame = some X.env.locals) (nd : X.N.Nodup) (tk : Takes X Wo)
    (bd : ∀ (W : WX) (pn : List (Addr × Obj)) (xe : Value → Shared → Prop), Takes (X.tr pn xe) W → PassesOwn (model X.prog X.w) X.A X.env xe → PSs (X.tr pn xe) body (tb W)) (hh : AsOk X (h1 :: hs) l) :
    PS X (.Try body (h1 :: hs) [] [] pos) (fun D σ H => tb (wAll X.K Wo D l) D σ H) := by
  refine ⟨fun pins s σ H D I want => ?_⟩
  have ok := I.ok
  have frs_ : X.A.frames = some (X.env :: X.outer) := by
    rw [ok.frames, st]
  refine wpAny_Try_except ?_
  refine wpAny_mono ((bd (wAll X.K Wo D l) (X.pn ++ pins) (fun e s₁ => wpAny (model X.prog X.w) X.A (noteFrame e X.env) (fun _ s₂ => wpAny (model X.prog X.w) X.A (setFlight e none) (fun _ s₃ =>
    wpAny (model X.prog X.w) X.A (handleBy e X.env (h1 :: hs)) (SP X pins D) X.xe s₃) X.xe s₂) X.xe s₁) (fun u s' xx => ?_) PassesOwn.looking).run [] s σ H D (I.toTry _) want) (fun f s1 done => ?_) (fun e s1 he => he)
  · obtain ⟨a, B, sI, pinz, σ1, H1, cls, d, rfl, J0, nb, up, sky, na, os, ag, w⟩ := xx
    have J1 : Inv X pins σ1 H1 sI := J0.ofTry ok
    have sky1 : Sky B (X.env :: X.outer) a (Zc cls d) X.env.locals s'.heap := by
      rw [← st]
      exact sky
    show wpAny (model X.prog X.w) X.A (noteFrame (.ref a) X.env)
      _ _ _
    refine Sky.land Zc.steady frs_ fr sky1 fun g3 la3 up3 => ?_
    have J3 : Inv X pins σ1 H1 { s' with heap := g3 } := J1.landed nb la3.1 (up.trans up3) os ag
    obtain ⟨o3, v3, at3, z3, d3⟩ := la3.there
    have off : ∀ {h : Heap} {o : Obj} {vs : Array Value}, h.FunFrames B (X.env :: X.outer) → h.get? a = some o → o.data = .fields vs → a ∉ frs (X.env :: X.outer) := fun {h o vs} ff e dd hm => by
      obtain ⟨_, o', e', hnf⟩ := ff.mem hm
      rw [e] at e'
      cases e'
      exact hnf _ dd
    have away := off la3.2.2.1 at3 d3
    have aL : a ≠ X.env.locals := fun z => away (List.mem_filterMap.mpr ⟨X.env, List.mem_cons_self, by rw [fr, z]⟩)
    have aF : a ∉ X.fs := fun hm => by
      obtain ⟨e, he, q⟩ := List.mem_filterMap.mp hm
      exact away (List.mem_filterMap.mpr ⟨e, List.mem_cons_of_mem _ he, q⟩)
    have S3 := J3.suite at3 d3 na aL aF
    have walk : ∀ {hz : List ExceptHandler} {lz : List Hnd}, AsOk X hz lz → wAll X.K Wo D lz cls d σ1 H1 → wpAny (model X.prog X.w) X.A (handleBy (.ref a) X.env hz) (SP X pins D) X.xe { s' with heap := g3 } := by
      intro hz lz hk
      induction hk with
      | nil =>
        intro w
        refine wpAny_handleBy_nil ?_
        obtain ⟨k1, k2, k3, oe, vs, T, oT, tsz, he, hz, hd, f1, hr⟩ := id la3
        unfold PySem.passOn
        refine wpAny_bind (wpAny_field he hd f1 ?_)
        rw [if_neg (show ¬ ((Value.ref T == Value.none) = true)
          from by simp)]
        have last : wpAny (model X.prog X.w) X.A (setFlight (.ref a) X.env.frame) (fun _ s4 => wpAny (model X.prog X.w) X.A (throw (.ref a) : Sem Flow) (SP X pins D) X.xe s4) X.xe { s' with heap := g3 } := by
          rw [fr]
          refine HandSPX.setFlight_upZ la3 fun g4 fl4 up4 => wpAny_throw (tk _ _ ?_)
          exact ⟨a, B, sI, pins, σ1, H1, cls, d, rfl, J1, nb, (up.trans up3).trans up4, .inr (.inr (by rw [st]; exact fl4)), na, os, ag, w⟩
        first
          | exact wpAny_bind
              (wpAny_pure (wpAny_bind last))
          | exact wpAny_bind last
      | @cons x n c i ts b0 su pn pz h2 l2 nm at_ lc go r ih =>
        intro w
        obtain ⟨b, hb, yes, no⟩ := w
        refine wpAny_handleBy_cons (codeAny_handlers_test ?_)
          (by intro q; cases q)
        have LT : PySem.W.Looks (model X.prog X.w) g3 (typeOf (.ref a)) cls := fun A Q E s k q => wpAny_typeOf_ref (k _ _ at3) (by rw [z3.1]; exact q)
        have LM := PySem.W.exm_one (M := model X.prog X.w) (J3.kIn) LT hb
        have test : ∀ {Q : Value → Shared → Prop} {E : Value → Shared → Prop}, Q c { s' with heap := g3 } → wpAny (model X.prog X.w) (X.A.mark (some (.ref a))) (eval (.Name x pn) X.env) Q E { s' with heap := g3 } := fun {Q E} q => by
          obtain ⟨hg, hdbg, hm | ⟨hm, hv, hnn⟩⟩ := nm
          · exact ld_glob (X := X.suite a ((a, o3) :: (X.pn ++ pins))) S3 hg hm q hdbg
          · exact ld_blt (X := X.suite a ((a, o3) :: (X.pn ++ pins))) S3 hg hm hv q hnn hdbg
        refine test (LM.here ?_)
        cases b with
        | true =>
          refine codeAny_handlers_suite_as ?_
          refine HandSPX.lands_againZ la3 fun g4 fl4 up4 => ?_
          have J4 : Inv X pins σ1 H1 { s' with heap := g4 } := J1.landed nb fl4.1 ((up.trans up3).trans up4) os ag
          obtain ⟨o4, v4, at4, z4, d4⟩ := fl4.there
          have S4 := J4.suite at4 d4 na aL aF
          refine store_ok (X := X.suite a ((a, o4) :: (X.pn ++ pins))) (v := .ref a) S4 nd at_ (.inl lc) rfl (fun s5 S5 => ?_) (.inr lc)
          refine wpAny_mono ((go a o4 cls d (X.pn ++ pins) z4 ⟨_, d4⟩).run [] s5 _ H1 _ S5 (yes rfl a na)) (fun f s6 done => ?_) (fun _ _ z => False.elim z)
          have gone : ∀ {σ6 : L2.St} {H6 : Hp} {Q : Shared → Prop}, Inv (X.suite a ((a, o4) :: (X.pn ++ pins))) [] σ6 H6 s6 → (∀ s7, Inv X pins (σ6.set i none) H6 s7 → Q s7) →
              wpAny (model X.prog X.w) X.A (do bindName X.env n .none; unbindBehindTheSuite X.env n pz) (fun _ s7 => Q s7) X.xe s6 := fun {σ6 H6 Q} S6 hq => gone_ok (S6.unsuite ok) nd at_ lc hq
          cases f with
          | next =>
            obtain ⟨σ6, H6, S6, q6⟩ := done
            exact gone S6 fun s7 J7 => ⟨_, _, J7, q6⟩
          | brk =>
            obtain ⟨σ6, H6, S6, q6⟩ := done
            exact gone S6 fun s7 J7 => ⟨_, _, J7, q6⟩
          | cont =>
            obtain ⟨σ6, H6, S6, q6⟩ := done
            exact gone S6 fun s7 J7 => ⟨_, _, J7, q6⟩
          | ret u =>
            obtain ⟨v6, σ6, H6, S6, r6, q6⟩ := done
            exact gone S6 fun s7 J7 => ⟨_, _, _, J7, r6, q6⟩
        | false =>
          show wpAny _ X.A (handleBy (.ref a) X.env h2)
            _ _ _
          exact ih (no rfl)
    exact walk hh w
  · cases f with
    | next =>
      obtain ⟨σ1, H1, J1, q⟩ := done
      exact wpAny_execs_nil ⟨σ1, H1, J1.ofTry ok, q⟩
    | brk =>
      obtain ⟨σ1, H1, J1, q⟩ := done
      exact ⟨σ1, H1, J1.ofTry ok, q⟩
    | cont =>
      obtain ⟨σ1, H1, J1, q⟩ := done
      exact ⟨σ1, H1, J1.ofTry ok, q⟩
    | ret u =>
      obtain ⟨v, σ1, H1, J1, r, q⟩ := done
      exact ⟨v, σ1, H1, J1.ofTry ok, r, q⟩
end
end XK
end
section
set_option Elab.async false
set_option linter.all false
set_option maxRecDepth 100000
set_option maxHeartbeats 4100000
namespace LA
open PySem PySem.Spec PyProof.Rows L2 XS XT XK XL LamX XO
abbrev sIsInt : Stmt := top 37
abbrev sCounting : Stmt := top 38
abbrev sIsNumL : Stmt := top 65
/-! ### values by what they are -/
structure OkS (z : Str) : Prop where
  few : z.length ≤ 30
  ch : ∀ c ∈ cod z, c < 1114112
mutual
/-- v is the value d, laid at addresses that N allows -/
inductive Dz (N : Addr → Prop) (H : Hp) : V → PyData → Prop
  | non : Dz N H .non .none
  | bl (b : Bool) : Dz N H (.bl b) (.bool b)
  | int (i : Int) : Dz N H (.int i) (.int i)
  | str {z : Str} (h : OkS z) : Dz N H (.str z) (.str z)
  | lst {a : Addr} {xs : List V} {ds : List PyData} (n : N a) (h : H a = some (.lst xs)) (few : xs.length ≤ 1000) (r : DzAll N H xs ds) : Dz N H (.ref a) (.list ds)
  | tup {a : Addr} {xs : List V} {ds : List PyData} (n : N a) (h : H a = some (.tup xs)) (few : xs.length ≤ 1000) (r : DzAll N H xs ds) : Dz N H (.ref a) (.tuple ds)
  | emp {a : Addr} (n : N a) (h : H a = some (.dK [])) : Dz N H (.ref a) (.dict [])
  | one {a : Addr} (n : N a) (h : H a = some (.dK [(Sum.inr "a", .str "b")])) : Dz N H (.ref a) (.dict [(.str "a", .str "b")])
inductive DzAll (N : Addr → Prop) (H : Hp) : List V → List PyData → Prop
  | nil : DzAll N H [] []
  | cons {v : V} {vs : List V} {d : PyData} {ds : List PyData} (a : Dz N H v d) (r : DzAll N H vs ds) : DzAll N H (v :: vs) (d :: ds)
end
/-- objects of these kinds stay as they are at the addresses that N allows -/
def Keeps (N : Addr → Prop) (H H' : Hp) : Prop := ∀ b o, N b → H b = some o → (∀ ps, o ≠ .tbl ps) → H' b = some o
mutual
theorem Dz.keep {N M : Addr → Prop} {H H' : Hp} (k : Keeps N H H') (im : ∀ a, N a → M a) : ∀ (d : PyData) (v : V), Dz N H v d → Dz M H' v d
  | .none, _, h => by
    cases h
    exact .non
  | .bool _, _, h => by
    cases h
    exact .bl _
  | .int _, _, h => by
    cases h
    exact .int _
  | .str _, _, h => by
    cases h with
    | str a => exact .str a
  | .list ds, _, h => by
    cases h with
    | lst n e f r => exact .lst (im _ n) (k _ _ n e (fun _ z => by cases z)) f (DzAll.keep k im ds _ r)
  | .tuple ds, _, h => by
    cases h with
    | tup n e f r => exact .tup (im _ n) (k _ _ n e (fun _ z => by cases z)) f (DzAll.keep k im ds _ r)
  | .dict _, _, h => by
    cases h with
    | emp n e => exact .emp (im _ n) (k _ _ n e (fun _ z => by cases z))
    | one n e => exact .one (im _ n) (k _ _ n e (fun _ z => by cases z))
theorem DzAll.keep {N M : Addr → Prop} {H H' : Hp} (k : Keeps N H H') (im : ∀ a, N a → M a) : ∀ (ds : List PyData) (vs : List V), DzAll N H vs ds → DzAll M H' vs ds
  | [], _, h => by
    cases h
    exact .nil
  | d :: ds, _, h => by
    cases h with
    | cons a r => exact .cons (Dz.keep k im d _ a) (DzAll.keep k im ds _ r)
end
theorem Keeps.same {N : Addr → Prop} {H H' : Hp} (s : Same H H') : Keeps N H H' := fun b o _ e _ => s _ _ e
theorem Keeps.but {N : Addr → Prop} {H H' : Hp} {d : Addr} (b : But d H H') (ne : ¬ N d) : Keeps N H H' := fun a o n e _ => b _ _ e fun z => ne (by rw [← z]; exact n)
theorem Keeps.ext {N : Addr → Prop} {H H' : Hp} (x : ExtN H H') : Keeps N H H' := fun a o _ e t => x a o e t
theorem Dz.same {N : Addr → Prop} {H H' : Hp} (s : Same H H') {v : V} {d : PyData} (h : Dz N H v d) : Dz N H' v d := h.keep (Keeps.same s) (fun _ z => z) d v
theorem Dz.but {N : Addr → Prop} {H H' : Hp} {c : Addr} (b : But c H H') (ne : ¬ N c) {v : V} {d : PyData} (h : Dz N H v d) : Dz N H' v d := h.keep (Keeps.but b ne) (fun _ z => z) d v
theorem Dz.ext {N : Addr → Prop} {H H' : Hp} (x : ExtN H H') {v : V} {d : PyData} (h : Dz N H v d) : Dz N H' v d := h.keep (Keeps.ext x) (fun _ z => z) d v
theorem Dz.imp {N M : Addr → Prop} {H : Hp} (im : ∀ a, N a → M a) {v : V} {d : PyData} (h : Dz N H v d) : Dz M H v d := h.keep (fun _ _ _ e _ => e) im d v
theorem DzAll.at_ {N : Addr → Prop} {H : Hp} : ∀ {vs : List V} {ds : List PyData} {i : Nat} {v : V}, DzAll N H vs ds → vs[i]? = some v → ∃ d, ds[i]? = some d ∧ Dz N H v d
  | _, _, i, v, .nil, h => by simp at h
  | _, _, 0, v, .cons a r, h => by
    rw [List.getElem?_cons_zero] at h
    cases h
    exact ⟨_, rfl, a⟩
  | _, _, i + 1, v, .cons a r, h => by
    rw [List.getElem?_cons_succ] at h ⊢
    exact DzAll.at_ r h
theorem DzAll.len {N : Addr → Prop} {H : Hp} : ∀ {vs : List V} {ds : List PyData}, DzAll N H vs ds → vs.length = ds.length
  | _, _, .nil => rfl
  | _, _, .cons _ r => congrArg Nat.succ (DzAll.len r)
/-- the name of its type -/
def tyD : PyData → String
  | .none => "NoneType"
  | .bool _ => "bool"
  | .int _ => "int"
  | .str _ => "str"
  | .list _ => "list"
  | .tuple _ => "tuple"
  | .dict _ => "dict"
theorem Dz.ty {K : PySem.W.Frag} {N : Addr → Prop} {H : Hp} : ∀ {v : V} {d : PyData}, Dz N H v d → TyX K H v (.type (tyD d))
  | _, _, .non => .base .non
  | _, _, .bl b => .base (.bl b)
  | _, _, .int i => .base (.int i)
  | _, _, .str _ => .base (.str _)
  | _, _, .lst _ h _ _ => .base (.lst h)
  | _, _, .tup _ h _ _ => .base (.tup h)
  | _, _, .emp _ h => .base (.dK h)
  | _, _, .one _ h => .base (.dK h)
def lineD : PyData → Bool
  | .str z => lineB z
  | _ => false
def itemsD : PyData → Option (List PyData)
  | .list ds => some ds
  | .tuple ds => some ds
  | _ => none
def txtD (d : PyData) : Bool := match itemsD d with
  | some ds => ds.all lineD
  | none => false
def intD : PyData → Option Int
  | .int k => some k
  | _ => none
def numD (d : PyData) (l g : Int) : Bool := match intD d with
  | some k => decide (l ≤ k) && decide (k ≤ g)
  | none => false
def rowsD (d : PyData) : Bool := match itemsD d with
  | some ds => ds.all lineD && decide (1 ≤ ds.length) && decide (ds.length ≤ 4)
  | none => false
def namD : List String := ["NoneType", "bool", "int", "str", "list", "tuple", "dict"]
theorem tyD_in (d : PyData) : tyD d ∈ namD := by
  cases d <;> simp [tyD, namD]
theorem kn_str : ∀ n ∈ namD, kitB n "str" = some (n == "str") := by decide +kernel
theorem kn_int : ∀ n ∈ namD, kitB n "int" = some (n == "int" || n == "bool") := by decide +kernel
theorem kn_bool : ∀ n ∈ namD, kitB n "bool" = some (n == "bool") := by decide +kernel
theorem kn_tup : ∀ n ∈ namD, kitB n "tuple" = some (n == "tuple") := by decide +kernel
theorem kn_list : ∀ n ∈ namD, kitB n "list" = some (n == "list") := by decide +kernel
theorem kit_seq {K : PySem.W.Frag} (d : PyData) : PySem.W.kitAny K (.type (tyD d)) [.type "list", .type "tuple"] = some (itemsD d).isSome := by
  refine kitAny_cons (kit_ty (kn_list _ (tyD_in d))) (fun h => kitAny_cons (kit_ty (kn_tup _ (tyD_in d))) (fun h2 => ?_) fun h2 => ?_) fun h => ?_
  · rw [kitAny_nil]
    cases d <;> first | rfl | (simp [tyD] at h; done) | (simp [tyD] at h2; done)
  · cases d <;> first | rfl | (simp [tyD] at h2; done)
  · cases d <;> first | rfl | (simp [tyD] at h; done)
/-- a list or a tuple -/
theorem Dz.items {N : Addr → Prop} {H : Hp} {v : V} {d : PyData} {ds : List PyData} (h : Dz N H v d) (e : itemsD d = some ds) : ∃ a o xs, v = .ref a ∧ N a ∧ H a = some o ∧ (o = .lst xs ∨ o = .tup xs) ∧ xs.length ≤ 1000 ∧ DzAll N H xs ds := by
  cases h with
  | lst n h f r =>
    cases e
    exact ⟨_, _, _, rfl, n, h, .inl rfl, f, r⟩
  | tup n h f r =>
    cases e
    exact ⟨_, _, _, rfl, n, h, .inr rfl, f, r⟩
  | _ => cases e
theorem DzAll.strs {N : Addr → Prop} {H : Hp} : ∀ {xs : List V} {ds : List PyData}, DzAll N H xs ds → ds.all lineD = true → ∃ rs : List Str, xs = rs.map V.str ∧ ds = rs.map PyData.str ∧ ∀ z ∈ rs, lineB z = true ∧ z.length ≤ 30
  | _, _, .nil, _ => ⟨[], rfl, rfl, fun _ h => by cases h⟩
  | _, _, .cons (v := v) (d := d) a r, h => by
    rw [List.all_cons, Bool.and_eq_true] at h
    obtain ⟨rs, e1, e2, ok⟩ := DzAll.strs r h.2
    cases a with
    | str ok1 =>
      refine ⟨_ :: rs, by rw [e1]; rfl, by rw [e2]; rfl, fun z hz => ?_⟩
      rcases List.mem_cons.mp hz with e | e
      · rw [e]
        exact ⟨h.1, ok1.few⟩
      · exact ok z e
    | _ => cases h.1
section
variable {P : Program} {w : World} {K : PySem.W.Frag} {mg : Str → Option Value} {base : Heap} {t1 t2 t3 : Tok}
abbrev rLen (K : PySem.W.Frag) : List V → Hp → VK → Prop := fun xs H Q => ∃ p ys, xs = [.ref p] ∧ (SqL K H p ys ∨ SqT K H p ys) ∧ Q (.int ys.length) H
/-- a question on any value -/
def spQ (f : PyData → Bool) : Sp := fun vs H Q _ => ∃ (N : Addr → Prop) (v : V) (d : PyData), vs = [v] ∧ Dz N H v d ∧ ∀ H', Same H H' → Q (.bl (f d)) H'
theorem all_map {f : PyData → Bool} : ∀ ds : List PyData, (ds.map f).all id = ds.all f
  | [] => rfl
  | d :: ds => by rw [List.map_cons, List.all_cons, List.all_cons, all_map ds]; rfl
theorem scII : FnScope ["value"] ["value"] (defScope sIsInt) := ⟨rfl, rfl, rfl, by decide +kernel, rfl, by decide +kernel, by decide +kernel⟩
def isI (d : PyData) : Bool := (intD d).isSome
theorem isI_ty (d : PyData) : isI d = ((tyD d == "int" || tyD d == "bool") && !(tyD d == "bool")) := by
  cases d <;> simp [isI, intD, tyD]
theorem ok_isInt {f : Addr} {fd : FuncData} (F : Fun K "is_integer" "is_integer" sIsInt f fd) (isM : mg "isinstance" = none) (mI : mg "int" = none) (mB : mg "bool" = none) : FnOk P w K mg base CX0 1 f fd ["value"] (spQ isI) := by
  refine F.ok scII (fun vs H Q E h => ?_) (fun cdv A outer s H vs Q E hr h => ?_)
  · obtain ⟨N, v, d, rfl, _⟩ := h
    rfl
  · obtain ⟨N, v, d, rfl, hv, q⟩ := h
    have q0 := q H (fun _ _ z => z)
    rw [isI_ty] at q0
    refine ⟨_, pss_one (by exact (ps_ret (pe_and (pe_callB call_isi (by rfl) isM (by decide +kernel) (pa_cons (pv 0) (pa_cons (pe_bltn (v := .ty "int") (by rfl) mI (by decide +kernel) rfl) pa_nil))) (pe_one (pe_not (pe_callB call_isi (by rfl) isM (by decide +kernel) (pa_cons (pv 0) (pa_cons (pe_bltn (v := .ty "bool") (by rfl) mB (by decide +kernel) rfl) pa_nil)))))))), ?_⟩
    refine ⟨_, rfl, _, _, _, _, _, rfl, .ty _, hv.ty, kit_ty (kn_int _ (tyD_in d)), _, rfl, ?_⟩
    cases e : (tyD d == "int" || tyD d == "bool") with
    | false =>
      rw [e] at q0
      exact iteF q0
    | true =>
      rw [e] at q0
      exact iteT ⟨_, rfl, _, _, _, _, _, rfl, .ty _, hv.ty, kit_ty (kn_bool _ (tyD_in d)), _, rfl, q0⟩
def cntD (d : PyData) : Bool := match intD d with
  | some k => decide (1 ≤ k)
  | none => false
theorem Dz.int_ {N : Addr → Prop} {H : Hp} {v : V} {d : PyData} {k : Int} (h : Dz N H v d) (e : intD d = some k) : v = .int k := by
  cases h <;> cases e
  rfl
theorem scCn : FnScope ["value"] ["value"] (defScope sCounting) := ⟨rfl, rfl, rfl, by decide +kernel, rfl, by decide +kernel, by decide +kernel⟩
theorem ok_counting {f f1 : Addr} {fd fd1 : FuncData} (F : Fun K "is_counting" "is_counting" sCounting f fd) (M : CallOf P w K mg base 1 "is_integer" ["value"] (spQ isI) f1 fd1) : FnOk P w K mg base CX0 2 f fd ["value"] (spQ cntD) := by
  refine F.ok scCn (fun vs H Q E h => ?_) (fun cdv A outer s H vs Q E hr h => ?_)
  · obtain ⟨N, v, d, rfl, _⟩ := h
    rfl
  · obtain ⟨N, v, d, rfl, hv, q⟩ := h
    refine ⟨_, pss_one (by exact (ps_ret (pe_and (pe_call M.ok hr rfl M.m M.k M.b .nil pass0 (pa_cons (pv 0) pa_nil)) (pe_one (pe_cmpR op_ge (pv 0) pe_int (nomark _)))))), ?_⟩
    refine ⟨_, rfl, N, v, d, rfl, hv, fun H' s => ⟨_, rfl, ?_⟩⟩
    have q0 := q H' s
    unfold cntD at q0
    cases e : intD d with
    | none =>
      rw [e] at q0
      have i0 : isI d = false := by
        unfold isI
        rw [e]
        rfl
      rw [i0]
      exact iteF q0
    | some k =>
      rw [e] at q0
      have i0 : isI d = true := by
        unfold isI
        rw [e]
        rfl
      rw [i0]
      obtain rfl := hv.int_ e
      exact iteT ⟨_, rfl, _, _, rfl, rfl, q0⟩
/-- is_number of the program, _law_is_number of the law -/
def spNum : Sp := fun vs H Q _ => ∃ (N : Addr → Prop) (v : V) (d : PyData) (l g : Int), vs = [v, .int l, .int g] ∧ Dz N H v d ∧ ∀ H', Same H H' → Q (.bl (numD d l g)) H'
end
/-! ### what stays: all but the pen's dict and the tables -/
def Bx (d : Addr) (H H' : Hp) : Prop := ∀ b o, H b = some o → b ≠ d → (∀ ps, o ≠ .tbl ps) → H' b = some o
theorem Bx.refl {d : Addr} {H : Hp} : Bx d H H := fun _ _ e _ _ => e
theorem Bx.trans {d : Addr} {H H1 H2 : Hp} (a : Bx d H H1) (b : Bx d H1 H2) : Bx d H H2 := fun c o e n t => b c o (a c o e n t) n t
theorem Bx.same {d : Addr} {H H' : Hp} (s : Same H H') : Bx d H H' := fun b o e _ _ => s b o e
theorem Bx.but {d : Addr} {H H' : Hp} (s : But d H H') : Bx d H H' := fun b o e n _ => s b o e n
theorem Bx.ext {d : Addr} {H H' : Hp} (s : ExtN H H') : Bx d H H' := fun b o e _ t => s b o e t
theorem Keeps.bx {d : Addr} {H H' : Hp} (b : Bx d H H') : Keeps (fun a => a ≠ d) H H' := fun a o n e t => b a o e n t
theorem Dz.bx {d : Addr} {H H' : Hp} (b : Bx d H H') {v : V} {e : PyData} (h : Dz (fun a => a ≠ d) H v e) : Dz (fun a => a ≠ d) H' v e := h.keep (Keeps.bx b) (fun _ z => z) e v
theorem PenAt.dict {H : Hp} {d c : Addr} {n : Int} {ns : List Int} (p : PenAt H d c n ns) : ∃ kvs, H d = some (.dK kvs) := by
  obtain ⟨kvs, _, _, q⟩ := p
  exact ⟨kvs, q.dc⟩
theorem PenAt.extN {H H' : Hp} {d c : Addr} {n : Int} {ns : List Int} (p : PenAt H d c n ns) (e : ExtN H H') : PenAt H' d c n ns := by
  obtain ⟨kvs, t, l, q⟩ := p
  exact ⟨kvs, t, l, ⟨e _ _ q.dc (fun ps z => by cases z), q.vc, q.vt, q.vl, q.t0, q.tn, q.sz, e _ _ q.cs (fun ps z => by cases z), q.cl⟩⟩
theorem Tabs.same {T : List (Addr × Str)} {H H' : Hp} (t : Tabs T H) (s : Same H H') : Tabs T H' := t.ext s
theorem Tabs.but {T : List (Addr × Str)} {H H' : Hp} {d : Addr} {kvs : List (Key × V)} (t : Tabs T H) (b : But d H H') (hd : H d = some (.dK kvs)) : Tabs T H' := fun p hp => by
  obtain ⟨ps, a1, a2, a3⟩ := t p hp
  refine ⟨ps, b _ _ a1 (ne_of a1 hd (by intro z; cases z)), a2, fun pos cv hc => ?_⟩
  obtain ⟨c, e1, e2⟩ := a3 pos cv hc
  exact ⟨c, e1, b _ _ e2 (ne_of e2 hd (by intro z; unfold CodeO at z; cases z))⟩
theorem Tabs.putL {T : List (Addr × Str)} {H : Hp} {L : Addr} {xs : List V} {o : HO} (t : Tabs T H) (h : H L = some (.lst xs)) : Tabs T (upd H L o) := fun p hp => by
  obtain ⟨ps, a1, a2, a3⟩ := t p hp
  refine ⟨ps, ?_, a2, fun pos cv hc => ?_⟩
  · rw [upd_ne (ne_of a1 h (by intro z; cases z))]
    exact a1
  · obtain ⟨c, e1, e2⟩ := a3 pos cv hc
    refine ⟨c, e1, ?_⟩
    rw [upd_ne (ne_of e2 h (by intro z; unfold CodeO at z; cases z))]
    exact e2
section
variable {P : Program} {w : World} {K : PySem.W.Frag} {mg : Str → Option Value} {base : Heap}
/-- is_number of the law -/
theorem scNl : FnScope ["_law_thing", "_law_low", "_law_high"] ["_law_thing", "_law_low", "_law_high"] (defScope sIsNumL) := ⟨rfl, rfl, rfl, by decide +kernel, rfl, by decide +kernel, by decide +kernel⟩
theorem ok_isNumL {f : Addr} {fd : FuncData} (F : Fun K "_law_is_number" "_law_is_number" sIsNumL f fd) (isM : mg "isinstance" = none) (mI : mg "int" = none) (mB : mg "bool" = none) : FnOk P w K mg base CX0 1 f fd ["_law_thing", "_law_low", "_law_high"] spNum := by
  refine F.ok scNl (fun vs H Q E h => ?_) (fun cdv A outer s H vs Q E hr h => ?_)
  · obtain ⟨N, v, d, l, g, rfl, _⟩ := h
    rfl
  · obtain ⟨N, v, d, l, g, rfl, hv, q⟩ := h
    refine ⟨_, pss_one (by exact (ps_ret (pe_and (pe_callB call_isi (by rfl) isM (by decide +kernel) (pa_cons (pv 0) (pa_cons (pe_bltn (v := .ty "int") (by rfl) mI (by decide +kernel) rfl) pa_nil))) (pe_and (pe_not (pe_callB call_isi (by rfl) isM (by decide +kernel) (pa_cons (pv 0) (pa_cons (pe_bltn (v := .ty "bool") (by rfl) mB (by decide +kernel) rfl) pa_nil)))) (pe_one (pe_chain op_le op_le (pv 1) (pv 0) (pv 2))))))), ?_⟩
    refine ⟨_, rfl, _, _, _, _, _, rfl, .ty _, hv.ty, kit_ty (kn_int _ (tyD_in d)), _, rfl, ?_⟩
    have q0 := q H (fun _ _ z => z)
    cases e : intD d with
    | none =>
      have n0 : numD d l g = false := by unfold numD; rw [e]
      rw [n0] at q0
      cases e1 : (tyD d == "int" || tyD d == "bool") with
      | false => exact iteF q0
      | true =>
        refine iteT ⟨_, rfl, _, _, _, _, _, rfl, .ty _, hv.ty, kit_ty (kn_bool _ (tyD_in d)), _, rfl, ?_⟩
        have e2 : (tyD d == "bool") = true := by
          cases d <;> first | rfl | (simp [tyD] at e1; done) | cases e
        rw [e2]
        exact ⟨_, rfl, iteF q0⟩
    | some k =>
      obtain rfl := hv.int_ e
      have n0 : numD d l g = (decide (l ≤ k) && decide (k ≤ g)) := by unfold numD; rw [e]
      have e1 : (tyD d == "int" || tyD d == "bool") = true := by
        cases d <;> first | rfl | cases e
      have e2 : (tyD d == "bool") = false := by
        cases d <;> first | rfl | cases e
      rw [n0] at q0
      rw [e1]
      refine iteT ⟨_, rfl, _, _, _, _, _, rfl, .ty _, hv.ty, kit_ty (kn_bool _ (tyD_in d)), _, rfl, ?_⟩
      rw [e2]
      refine ⟨_, rfl, iteT ⟨_, rfl, _, rfl, _, _, rfl, rfl, _, rfl, ?_⟩⟩
      cases e3 : decide (l ≤ k) with
      | false =>
        rw [e3] at q0
        exact iteF q0
      | true =>
        rw [e3] at q0
        exact iteT ⟨_, rfl, _, _, rfl, rfl, q0⟩
end
end LA
end
section
set_option Elab.async false
set_option linter.all false
set_option maxRecDepth 100000
set_option maxHeartbeats 4100000
namespace LA
open PySem L2 XS XT XK XL LamX XO
abbrev sAny : Stmt := top 75
theorem same_upd2 {H : Hp} {p : Addr} {o u : HO} (hp : H p = none) : Same H (upd (upd H p o) p u) := by
  rw [upd_upd]
  exact same_upd hp
/-! ### values of which repr is asked -/
mutual
theorem Dz.dp {K : PySem.W.Frag} {N : Addr → Prop} {H : Hp} : ∀ (d : PyData) (v : V), Dz N H v d → d.hasDict = false → Dp K H v d
  | .none, _, h, _ => by cases h; exact .non
  | .bool _, _, h, _ => by cases h; exact .bl _
  | .int _, _, h, _ => by cases h; exact .int _
  | .str _, _, h, _ => by cases h; exact .str _
  | .list ds, _, h, n => by
    unfold PyData.hasDict at n
    cases h with
    | lst _ a _ r => exact .lst (SqL.of a) (DzAll.dps ds _ r n)
  | .tuple ds, _, h, n => by
    unfold PyData.hasDict at n
    cases h with
    | tup _ a _ r => exact .tup (.inl (.inl a)) (DzAll.dps ds _ r n)
  | .dict _, _, h, n => by
    unfold PyData.hasDict at n
    cases n
theorem DzAll.dps {K : PySem.W.Frag} {N : Addr → Prop} {H : Hp} : ∀ (ds : List PyData) (vs : List V), DzAll N H vs ds → PyData.hasDictAll ds = false → DpAll K H vs ds
  | [], _, h, _ => by cases h; exact .nil
  | d :: ds, _, h, n => by
    unfold PyData.hasDictAll at n
    rw [Bool.or_eq_false_iff] at n
    cases h with
    | cons a r => exact .cons (Dz.dp d _ a n.1) (DzAll.dps ds _ r n.2)
end
def dxOk : PyData → Bool
  | .dict _ => true
  | d => !d.hasDict
theorem Dz.dx {K : PySem.W.Frag} {N : Addr → Prop} {H : Hp} {v : V} {d : PyData} (h : Dz N H v d) (ok : dxOk d = true) : DX K H v d := by
  cases d with
  | dict kvs =>
    cases h with
    | emp _ e => exact .dc (ks := []) (vs := []) e .nil .nil rfl rfl
    | one _ e => exact .dc (ks := [.str "a"]) (vs := [.str "b"]) e (.cons (.str _) .nil) (.cons (.str _) .nil) rfl rfl
  | _ => exact .dp (Dz.dp _ _ h (by simpa [dxOk] using ok))
/-- repr of it, alone and told -/
structure Fine (d : PyData) : Prop where
  ok : dxOk d = true
  sh : Shows d
  out : Shows (.tuple [.str "out", .str d.shown, .bool true])
  txt : PyData.strOk d.shown = true
  num : numD d 1 (10 ^ 60) = cntD d
theorem shows_of {d : PyData} (sh : d.showable = true) (lf : d.leavesShort 8 = true) (w : d.weight ≤ 2 ^ 20) (dp : d.depth ≤ 60) : Shows d := ⟨sh, PyData.shown_fits (Nat.le_refl _) (by decide) lf w, dp⟩
theorem big_int {k : Int} (h : k.natAbs < 2 ^ 200) : k.natAbs.log2 < 1920 := Nat.lt_trans (PySem.Flt.log2_lt_of (k := 200) (by decide) h) (by decide)
theorem len_shown_int {k : Int} (h : k.natAbs < 2 ^ 200) : (PyData.shown (.int k)).length ≤ 1921 := by
  rw [PyData.shown_int]
  exact PyProof.Rows.int_text_len_1921 (big_int h)
theorem cods_int (k : Int) : ∀ c ∈ (PyData.shown (.int k)).cps.toList, c < 58 := fun c hc => by
  refine Decidable.byContradiction fun z => ?_
  exact absurd hc (PyProof.Rows.shown_int_free' ⟨by omega, .inr (by omega)⟩ k)
theorem fine_int {k : Int} (h60 : k.natAbs ≤ 10 ^ 60) : Fine (.int k) := by
  have h : k.natAbs < 2 ^ 200 := Nat.lt_of_le_of_lt h60 (by decide)
  have l := len_shown_int h
  have c := cods_int k
  refine ⟨rfl, ⟨decide_eq_true (big_int h), Nat.le_trans l (by decide), Nat.zero_le _⟩, shows_of rfl ?_ ?_ (by simp [PyData.depth, PyData.depthAll]), ?_, ?_⟩
  · simp only [PyData.leavesShort, PyData.leavesShortAll, Bool.and_true, Bool.and_eq_true, List.all_eq_true]
    exact ⟨by decide, fun x hx => decide_eq_true (Nat.lt_trans (c x hx) (by decide))⟩
  · simp only [PyData.weight, PyData.weightAll]
    have e : (PyData.shown (.int k)).cps.size = (PyData.shown (.int k)).length := rfl
    rw [e]
    have e3 : (PySem.Str.ofString "out").cps.size = 3 := by decide +kernel
    rw [e3]
    exact Nat.le_trans (show _ ≤ 2000 by omega) (by decide)
  · show ((PyData.shown (.int k)).cps.all (· < 0x110000)) = true
    rw [Array.all_eq_true]
    intro i hi
    exact decide_eq_true (Nat.lt_trans (c _ (Array.mem_toList_iff.mpr (Array.getElem_mem hi))) (by decide))
  · show (decide (1 ≤ k) && decide (k ≤ 10 ^ 60)) = decide (1 ≤ k)
    have h10 : ((10 : Int) ^ 60) = ((10 ^ 60 : Nat) : Int) := by decide +kernel
    rw [decide_eq_true (show k ≤ 10 ^ 60 by rw [h10]; omega), Bool.and_true]
theorem fw0 : Fine (.none) := ⟨by decide +kernel, ⟨by decide +kernel, by decide +kernel, by decide +kernel⟩, ⟨by decide +kernel, by decide +kernel, by decide +kernel⟩, by decide +kernel, by decide +kernel⟩
theorem fw1 : Fine (.bool true) := ⟨by decide +kernel, ⟨by decide +kernel, by decide +kernel, by decide +kernel⟩, ⟨by decide +kernel, by decide +kernel, by decide +kernel⟩, by decide +kernel, by decide +kernel⟩
theorem fw2 : Fine (.bool false) := ⟨by decide +kernel, ⟨by decide +kernel, by decide +kernel, by decide +kernel⟩, ⟨by decide +kernel, by decide +kernel, by decide +kernel⟩, by decide +kernel, by decide +kernel⟩
theorem fw3 : Fine (.int 0) := ⟨by decide +kernel, ⟨by decide +kernel, by decide +kernel, by decide +kernel⟩, ⟨by decide +kernel, by decide +kernel, by decide +kernel⟩, by decide +kernel, by decide +kernel⟩
theorem fw4 : Fine (.int 1) := ⟨by decide +kernel, ⟨by decide +kernel, by decide +kernel, by decide +kernel⟩, ⟨by decide +kernel, by decide +kernel, by decide +kernel⟩, by decide +kernel, by decide +kernel⟩
theorem fw5 : Fine (.int (-1)) := ⟨by decide +kernel, ⟨by decide +kernel, by decide +kernel, by decide +kernel⟩, ⟨by decide +kernel, by decide +kernel, by decide +kernel⟩, by decide +kernel, by decide +kernel⟩
theorem fw6 : Fine (.int (10 ^ (59 : Int).toNat)) := ⟨by decide +kernel, ⟨by decide +kernel, by decide +kernel, by decide +kernel⟩, ⟨by decide +kernel, by decide +kernel, by decide +kernel⟩, by decide +kernel, by decide +kernel⟩
theorem fw7 : Fine (.str "") := ⟨by decide +kernel, ⟨by decide +kernel, by decide +kernel, by decide +kernel⟩, ⟨by decide +kernel, by decide +kernel, by decide +kernel⟩, by decide +kernel, by decide +kernel⟩
theorem fw8 : Fine (.str "a") := ⟨by decide +kernel, ⟨by decide +kernel, by decide +kernel, by decide +kernel⟩, ⟨by decide +kernel, by decide +kernel, by decide +kernel⟩, by decide +kernel, by decide +kernel⟩
theorem fw9 : Fine (.str "\t") := ⟨by decide +kernel, ⟨by decide +kernel, by decide +kernel, by decide +kernel⟩, ⟨by decide +kernel, by decide +kernel, by decide +kernel⟩, by decide +kernel, by decide +kernel⟩
theorem fw10 : Fine (.str "a\n") := ⟨by decide +kernel, ⟨by decide +kernel, by decide +kernel, by decide +kernel⟩, ⟨by decide +kernel, by decide +kernel, by decide +kernel⟩, by decide +kernel, by decide +kernel⟩
theorem fw11 : Fine (.str "ab") := ⟨by decide +kernel, ⟨by decide +kernel, by decide +kernel, by decide +kernel⟩, ⟨by decide +kernel, by decide +kernel, by decide +kernel⟩, by decide +kernel, by decide +kernel⟩
theorem fw12 : Fine (.tuple []) := ⟨by decide +kernel, ⟨by decide +kernel, by decide +kernel, by decide +kernel⟩, ⟨by decide +kernel, by decide +kernel, by decide +kernel⟩, by decide +kernel, by decide +kernel⟩
theorem fw13 : Fine (.tuple [.str "a"]) := ⟨by decide +kernel, ⟨by decide +kernel, by decide +kernel, by decide +kernel⟩, ⟨by decide +kernel, by decide +kernel, by decide +kernel⟩, by decide +kernel, by decide +kernel⟩
theorem fw14 : Fine (.list [.str "a", .str "b"]) := ⟨by decide +kernel, ⟨by decide +kernel, by decide +kernel, by decide +kernel⟩, ⟨by decide +kernel, by decide +kernel, by decide +kernel⟩, by decide +kernel, by decide +kernel⟩
theorem fw15 : Fine (.dict []) := ⟨by decide +kernel, ⟨by decide +kernel, by decide +kernel, by decide +kernel⟩, ⟨by decide +kernel, by decide +kernel, by decide +kernel⟩, by decide +kernel, by decide +kernel⟩
theorem fw16 : Fine (.list [.int 1]) := ⟨by decide +kernel, ⟨by decide +kernel, by decide +kernel, by decide +kernel⟩, ⟨by decide +kernel, by decide +kernel, by decide +kernel⟩, by decide +kernel, by decide +kernel⟩
theorem fw17 : Fine (.tuple [.str "a", .int 1]) := ⟨by decide +kernel, ⟨by decide +kernel, by decide +kernel, by decide +kernel⟩, ⟨by decide +kernel, by decide +kernel, by decide +kernel⟩, by decide +kernel, by decide +kernel⟩
theorem fw18 : Fine (.dict [(.str "a", .str "b")]) := ⟨by decide +kernel, ⟨by decide +kernel, by decide +kernel, by decide +kernel⟩, ⟨by decide +kernel, by decide +kernel, by decide +kernel⟩, by decide +kernel, by decide +kernel⟩
theorem fw19 : Fine (.str "print") := ⟨by decide +kernel, ⟨by decide +kernel, by decide +kernel, by decide +kernel⟩, ⟨by decide +kernel, by decide +kernel, by decide +kernel⟩, by decide +kernel, by decide +kernel⟩
theorem fw20 : Fine (.str (Txt.mul "a" 9)) := ⟨by decide +kernel, ⟨by decide +kernel, by decide +kernel, by decide +kernel⟩, ⟨by decide +kernel, by decide +kernel, by decide +kernel⟩, by decide +kernel, by decide +kernel⟩
theorem fw21 : Fine (.str (Txt.mul "a" 21)) := ⟨by decide +kernel, ⟨by decide +kernel, by decide +kernel, by decide +kernel⟩, ⟨by decide +kernel, by decide +kernel, by decide +kernel⟩, by decide +kernel, by decide +kernel⟩
theorem fw22 : Fine (.tuple [.str "a\tb"]) := ⟨by decide +kernel, ⟨by decide +kernel, by decide +kernel, by decide +kernel⟩, ⟨by decide +kernel, by decide +kernel, by decide +kernel⟩, by decide +kernel, by decide +kernel⟩
theorem fw23 : Fine (.list [.list [.str "a"]]) := ⟨by decide +kernel, ⟨by decide +kernel, by decide +kernel, by decide +kernel⟩, ⟨by decide +kernel, by decide +kernel, by decide +kernel⟩, by decide +kernel, by decide +kernel⟩
theorem fw24 : Fine (.tuple [.int 0, .int 1]) := ⟨by decide +kernel, ⟨by decide +kernel, by decide +kernel, by decide +kernel⟩, ⟨by decide +kernel, by decide +kernel, by decide +kernel⟩, by decide +kernel, by decide +kernel⟩
theorem fw25 : Fine (.str "aa") := ⟨by decide +kernel, ⟨by decide +kernel, by decide +kernel, by decide +kernel⟩, ⟨by decide +kernel, by decide +kernel, by decide +kernel⟩, by decide +kernel, by decide +kernel⟩
theorem fw26 : Fine (.list []) := ⟨by decide +kernel, ⟨by decide +kernel, by decide +kernel, by decide +kernel⟩, ⟨by decide +kernel, by decide +kernel, by decide +kernel⟩, by decide +kernel, by decide +kernel⟩
theorem fw27 : Fine (.tuple [.str "number", .int 1]) := ⟨by decide +kernel, ⟨by decide +kernel, by decide +kernel, by decide +kernel⟩, ⟨by decide +kernel, by decide +kernel, by decide +kernel⟩, by decide +kernel, by decide +kernel⟩
theorem oks (z : Str) (l : z.length ≤ 30) (c : (cod z).all (fun c => decide (c < 1114112)) = true) : OkS z := ⟨l, fun k hk => of_decide_eq_true (List.all_eq_true.mp c k hk)⟩
theorem all_any {N : Addr → Prop} {H : Hp} {t1 t2 l3 d4 l5 t6 t8 l9 l10 t11 l12 t13 d7 : Addr} (f_t1 : H t1 = some (.tup [])) (f_t2 : H t2 = some (.tup [.str "a"])) (f_l3 : H l3 = some (.lst [.str "a", .str "b"])) (f_d4 : H d4 = some (.dK [])) (f_l5 : H l5 = some (.lst [.int 1])) (f_t6 : H t6 = some (.tup [.str "a", .int 1])) (f_t8 : H t8 = some (.tup [.str "a\tb"])) (f_l9 : H l9 = some (.lst [.str "a"])) (f_l10 : H l10 = some (.lst [.ref l9])) (f_t11 : H t11 = some (.tup [.int 0, .int 1])) (f_l12 : H l12 = some (.lst [])) (f_t13 : H t13 = some (.tup [.str "number", .int 1])) (f_d7 : H d7 = some (.dK [(Sum.inr "a", .str "b")])) (n_t1 : N t1) (n_t2 : N t2) (n_l3 : N l3) (n_d4 : N d4) (n_l5 : N l5) (n_t6 : N t6) (n_t8 : N t8) (n_l9 : N l9) (n_l10 : N l10) (n_t11 : N t11) (n_l12 : N l12) (n_t13 : N t13) (n_d7 : N d7) :
    ∀ v ∈ ([.non, .bl true, .bl false, .int 0, .int 1, .int (-1), .int (10 ^ (59 : Int).toNat), .str "", .str "a", .str "\t", .str "a\n", .str "ab", .ref t1, .ref t2, .ref l3, .ref d4, .ref l5, .ref t6, .ref d7, .str "print", .str (Txt.mul "a" 9), .str (Txt.mul "a" 21), .ref t8, .ref l10, .ref t11, .str "aa", .ref l12, .ref t13] : List V), ∃ e, Dz N H v e ∧ Fine e := by
  have sA : Dz N H (.str "a") (.str "a") := .str (oks _ (by decide +kernel) (by decide +kernel))
  have sB : Dz N H (.str "b") (.str "b") := .str (oks _ (by decide +kernel) (by decide +kernel))
  have sT : Dz N H (.str "a\tb") (.str "a\tb") := .str (oks _ (by decide +kernel) (by decide +kernel))
  have sN : Dz N H (.str "number") (.str "number") := .str (oks _ (by decide +kernel) (by decide +kernel))
  intro v hv
  simp only [List.mem_cons, List.not_mem_nil, or_false] at hv
  rcases hv with rfl | rfl | rfl | rfl | rfl | rfl | rfl | rfl | rfl | rfl | rfl | rfl | rfl | rfl | rfl | rfl | rfl | rfl | rfl | rfl | rfl | rfl | rfl | rfl | rfl | rfl | rfl | rfl
  · exact ⟨_, .non, fw0⟩
  · exact ⟨_, .bl _, fw1⟩
  · exact ⟨_, .bl _, fw2⟩
  · exact ⟨_, .int _, fw3⟩
  · exact ⟨_, .int _, fw4⟩
  · exact ⟨_, .int _, fw5⟩
  · exact ⟨_, .int _, fw6⟩
  · exact ⟨_, .str (oks _ (by decide +kernel) (by decide +kernel)), fw7⟩
  · exact ⟨_, .str (oks _ (by decide +kernel) (by decide +kernel)), fw8⟩
  · exact ⟨_, .str (oks _ (by decide +kernel) (by decide +kernel)), fw9⟩
  · exact ⟨_, .str (oks _ (by decide +kernel) (by decide +kernel)), fw10⟩
  · exact ⟨_, .str (oks _ (by decide +kernel) (by decide +kernel)), fw11⟩
  · exact ⟨_, .tup n_t1 f_t1 (by decide) .nil, fw12⟩
  · exact ⟨_, .tup n_t2 f_t2 (by decide) (.cons sA .nil), fw13⟩
  · exact ⟨_, .lst n_l3 f_l3 (by decide) (.cons sA (.cons sB .nil)), fw14⟩
  · exact ⟨_, .emp n_d4 f_d4, fw15⟩
  · exact ⟨_, .lst n_l5 f_l5 (by decide) (.cons (.int _) .nil), fw16⟩
  · exact ⟨_, .tup n_t6 f_t6 (by decide) (.cons sA (.cons (.int _) .nil)), fw17⟩
  · exact ⟨_, .one n_d7 f_d7, fw18⟩
  · exact ⟨_, .str (oks _ (by decide +kernel) (by decide +kernel)), fw19⟩
  · exact ⟨_, .str (oks _ (by decide +kernel) (by decide +kernel)), fw20⟩
  · exact ⟨_, .str (oks _ (by decide +kernel) (by decide +kernel)), fw21⟩
  · exact ⟨_, .tup n_t8 f_t8 (by decide) (.cons sT .nil), fw22⟩
  · exact ⟨_, .lst n_l10 f_l10 (by show 1 ≤ 1000; decide) (.cons (.lst n_l9 f_l9 (by decide) (.cons sA .nil)) .nil), fw23⟩
  · exact ⟨_, .tup n_t11 f_t11 (by decide) (.cons (.int _) (.cons (.int _) .nil)), fw24⟩
  · exact ⟨_, .str (oks _ (by decide +kernel) (by decide +kernel)), fw25⟩
  · exact ⟨_, .lst n_l12 f_l12 (by decide) .nil, fw26⟩
  · exact ⟨_, .tup n_t13 f_t13 (by decide) (.cons sN (.cons (.int _) .nil)), fw27⟩
section
variable {P : Program} {w : World} {K : PySem.W.Frag} {mg : Str → Option Value} {base : Heap}
def spAny : Sp := fun vs H Q _ => ∃ (d c : Addr) (n : Int) (ns : List Int), vs = [.ref d] ∧ PenAt H d c n ns ∧ n < 1000000 ∧ ∀ (v : V) (e : PyData) (H' : Hp), Dz (fun a => a ≠ d ∧ H a = none) H' v e → Fine e → PenAt H' d c (n + 1) ns → But d H H' → Q v H'
theorem scA : FnScope ["_law_pen_here", "_law_some"] ["_law_pen_here"] (defScope sAny) := ⟨rfl, rfl, rfl, by decide +kernel, rfl, by decide +kernel, by decide +kernel⟩
theorem ok_any {f fP : Addr} {fd fdP : FuncData} (F : Fun K "_law_any_value" "_law_any_value" sAny f fd) (M : PickAt P w K mg base fP fdP) :
    FnOk P w K mg base CX0 3 f fd ["_law_pen_here"] spAny := by
  refine F.ok scA (fun vs H Q E h => ?_) (fun cdv A outer s H vs Q E hr h => ?_)
  · obtain ⟨d, c, n, ns, rfl, _⟩ := h
    rfl
  · obtain ⟨d, c, n, ns, rfl, pen, hn, k⟩ := h
    have hr2 : Room 2 _ := hr.mono (by decide)
    refine ⟨_, pss_cons (by exact (ps_set (i := 1) scA.nd rfl (.inl rfl) (pe_lst (pa_cons pe_non (pa_cons pe_bl (pa_cons pe_bl (pa_cons pe_int (pa_cons pe_int (pa_cons (pe_un un_neg pe_int) (pa_cons (pe_op op_pow pe_int pe_int) (pa_cons pe_str (pa_cons pe_str (pa_cons pe_str (pa_cons pe_str (pa_cons pe_str (pa_cons (pe_tup pa_nil) (pa_cons (pe_tup (pa_cons pe_str pa_nil)) (pa_cons (pe_lst (pa_cons pe_str (pa_cons pe_str pa_nil))) (pa_cons pe_dnewK (pa_cons (pe_lst (pa_cons pe_int pa_nil)) pa_nil))))))))))))))))))))
      (pss_cons (by exact (ps_set (i := 1) scA.nd rfl (.inl rfl) (pe_op op_cat (pv 1) (pe_lst (pa_cons (pe_tup (pa_cons pe_str (pa_cons pe_int pa_nil))) (pa_cons (pe_disp (pps_cons pe_str pe_str pps_nil) (by rfl) (by rfl) (fun z => by cases z) (by decide)) (pa_cons pe_str (pa_cons (pe_op op_mul_str pe_str pe_int) (pa_cons (pe_op op_mul_str pe_str pe_int) (pa_cons (pe_tup (pa_cons pe_str pa_nil)) (pa_cons (pe_lst (pa_cons (pe_lst (pa_cons pe_str pa_nil)) pa_nil)) (pa_cons (pe_tup (pa_cons pe_int (pa_cons pe_int pa_nil))) (pa_cons pe_str (pa_cons (pe_lst pa_nil) pa_nil))))))))))))))
      (pss_one (by exact (ps_ret (pe_call M.ok hr2 rfl M.m M.k M.b .nil pass0 (pa_cons (pv 0) (pa_cons (pe_op op_cat (pv 1) (pe_lst (pa_cons (pe_tup (pa_cons pe_str (pa_cons pe_int pa_nil))) pa_nil))) pa_nil))))))), ?_⟩
    refine ⟨_, rfl, _, _, rfl, rfl, ⟨by decide, by decide, by decide⟩, (by show 0 ≤ sizeLine; decide), fun t1 n1 => ⟨(by show 1 ≤ sizeLine; decide), fun t2 n2 => ⟨(by show 2 ≤ sizeLine; decide), fun l3 n3 => fun d4 n4 => ⟨(by show 1 ≤ sizeLine; decide), fun l5 n5 => ⟨(by show 17 ≤ sizeLine; decide), fun L1 n6 => ?_⟩⟩⟩⟩⟩
    refine ⟨_, rfl, (by show 2 ≤ sizeLine; decide), fun t6 m1 => fun d7 m2 => ⟨upd_same, [(Sum.inr "a", .str "b")], rfl, by decide, _, _, rfl, rfl, by decide, by decide, by decide, _, _, rfl, rfl, by decide, by decide, by decide, (by show 1 ≤ sizeLine; decide), fun t8 m3 => ⟨(by show 1 ≤ sizeLine; decide), fun l9 m4 => ⟨(by show 1 ≤ sizeLine; decide), fun l10 m5 => ⟨(by show 2 ≤ sizeLine; decide), fun t11 m6 => ⟨(by show 0 ≤ sizeLine; decide), fun l12 m7 => ⟨(by show 10 ≤ sizeLine; decide), fun L2 m8 => ?_⟩⟩⟩⟩⟩⟩⟩
    have g2 := same_upd2 (o := .dK []) (u := .dK (mergeK [] [(Sum.inr "a", .str "b")])) m2
    refine ⟨L1, L2, _, _, rfl, rfl, (g2.trans ((same_upd m3).trans ((same_upd m4).trans ((same_upd m5).trans ((same_upd m6).trans ((same_upd m7).trans (same_upd m8))))))) _ _ ((same_upd m1) _ _ upd_same), upd_same, (by show 17 + 10 ≤ sizeLine; decide), fun L3 m9 => ?_⟩
    refine ⟨_, rfl, _, rfl, (by show 2 ≤ sizeLine; decide), fun t13 m10 => ⟨(by show 1 ≤ sizeLine; decide), fun L4 m11 => ⟨L3, L4, _, _, rfl, rfl, ((same_upd m10).trans (same_upd m11)) _ _ upd_same, upd_same, (by show 27 + 1 ≤ sizeLine; decide), fun L5 m12 => ?_⟩⟩⟩
    have T17 := fun o => same_upd (o := o) m12
    have T16 := fun o => (same_upd m11).trans (T17 o)
    have T15 := fun o => (same_upd m10).trans (T16 o)
    have T14 := fun o => (same_upd m9).trans (T15 o)
    have T13 := fun o => (same_upd m8).trans (T14 o)
    have T12 := fun o => (same_upd m7).trans (T13 o)
    have T11 := fun o => (same_upd m6).trans (T12 o)
    have T10 := fun o => (same_upd m5).trans (T11 o)
    have T9 := fun o => (same_upd m4).trans (T10 o)
    have T8 := fun o => (same_upd m3).trans (T9 o)
    have T7 := fun o => g2.trans (T8 o)
    have T6 := fun o => (same_upd m1).trans (T7 o)
    have T5 := fun o => (same_upd n6).trans (T6 o)
    have T4 := fun o => (same_upd n5).trans (T5 o)
    have T3 := fun o => (same_upd n4).trans (T4 o)
    have T2 := fun o => (same_upd n3).trans (T3 o)
    have T1 := fun o => (same_upd n2).trans (T2 o)
    have T0 := fun o => (same_upd n1).trans (T1 o)
    refine ⟨d, c, n, ns, _, rfl, pen.keep (T0 _), hn, .inl ⟨L5, _, rfl, upd_same, (by show 0 < 28; decide), (by show 28 < 1000000; decide), fun v H' hv pen' but => ?_⟩⟩
    obtain ⟨kvs, _, _, p⟩ := pen
    have pd := p.dc
    have e4 : d4 ≠ d := Ne.symm (ne_of_none (((same_upd n1).trans ((same_upd n2).trans (same_upd n3))) _ _ pd) n4)
    have e7 : d7 ≠ d := Ne.symm (ne_of_none (((same_upd n1).trans ((same_upd n2).trans ((same_upd n3).trans ((same_upd n4).trans ((same_upd n5).trans ((same_upd n6).trans (same_upd m1))))))) _ _ pd) m2)
    have pf := fun o => (T0 o) _ _ pd
    have e_t1 : t1 ≠ d := ne_of (T1 (.lst []) _ _ upd_same) (pf (.lst [])) (by intro z; cases z)
    have e_t2 : t2 ≠ d := ne_of (T2 (.lst []) _ _ upd_same) (pf (.lst [])) (by intro z; cases z)
    have e_l3 : l3 ≠ d := ne_of (T3 (.lst []) _ _ upd_same) (pf (.lst [])) (by intro z; cases z)
    have e_l5 : l5 ≠ d := ne_of (T5 (.lst []) _ _ upd_same) (pf (.lst [])) (by intro z; cases z)
    have e_t6 : t6 ≠ d := ne_of (T7 (.lst []) _ _ upd_same) (pf (.lst [])) (by intro z; cases z)
    have e_t8 : t8 ≠ d := ne_of (T9 (.lst []) _ _ upd_same) (pf (.lst [])) (by intro z; cases z)
    have e_l9 : l9 ≠ d := ne_of (T10 (.lst []) _ _ upd_same) (pf (.lst [])) (by intro z; cases z)
    have e_l10 : l10 ≠ d := ne_of (T11 (.lst []) _ _ upd_same) (pf (.lst [])) (by intro z; cases z)
    have e_t11 : t11 ≠ d := ne_of (T12 (.lst []) _ _ upd_same) (pf (.lst [])) (by intro z; cases z)
    have e_l12 : l12 ≠ d := ne_of (T13 (.lst []) _ _ upd_same) (pf (.lst [])) (by intro z; cases z)
    have e_t13 : t13 ≠ d := ne_of (T16 (.lst []) _ _ upd_same) (pf (.lst [])) (by intro z; cases z)
    have z_t1 : H t1 = none := n1
    have z_t2 : H t2 = none := (same_upd n1).free n2
    have z_l3 : H l3 = none := ((same_upd n1).trans (same_upd n2)).free n3
    have z_d4 : H d4 = none := (((same_upd n1).trans (same_upd n2)).trans (same_upd n3)).free n4
    have z_l5 : H l5 = none := ((((same_upd n1).trans (same_upd n2)).trans (same_upd n3)).trans (same_upd n4)).free n5
    have z_t6 : H t6 = none := ((((((same_upd n1).trans (same_upd n2)).trans (same_upd n3)).trans (same_upd n4)).trans (same_upd n5)).trans (same_upd n6)).free m1
    have z_t8 : H t8 = none := ((((((((same_upd n1).trans (same_upd n2)).trans (same_upd n3)).trans (same_upd n4)).trans (same_upd n5)).trans (same_upd n6)).trans (same_upd m1)).trans g2).free m3
    have z_l9 : H l9 = none := (((((((((same_upd n1).trans (same_upd n2)).trans (same_upd n3)).trans (same_upd n4)).trans (same_upd n5)).trans (same_upd n6)).trans (same_upd m1)).trans g2).trans (same_upd m3)).free m4
    have z_l10 : H l10 = none := ((((((((((same_upd n1).trans (same_upd n2)).trans (same_upd n3)).trans (same_upd n4)).trans (same_upd n5)).trans (same_upd n6)).trans (same_upd m1)).trans g2).trans (same_upd m3)).trans (same_upd m4)).free m5
    have z_t11 : H t11 = none := (((((((((((same_upd n1).trans (same_upd n2)).trans (same_upd n3)).trans (same_upd n4)).trans (same_upd n5)).trans (same_upd n6)).trans (same_upd m1)).trans g2).trans (same_upd m3)).trans (same_upd m4)).trans (same_upd m5)).free m6
    have z_l12 : H l12 = none := ((((((((((((same_upd n1).trans (same_upd n2)).trans (same_upd n3)).trans (same_upd n4)).trans (same_upd n5)).trans (same_upd n6)).trans (same_upd m1)).trans g2).trans (same_upd m3)).trans (same_upd m4)).trans (same_upd m5)).trans (same_upd m6)).free m7
    have z_t13 : H t13 = none := (((((((((((((((same_upd n1).trans (same_upd n2)).trans (same_upd n3)).trans (same_upd n4)).trans (same_upd n5)).trans (same_upd n6)).trans (same_upd m1)).trans g2).trans (same_upd m3)).trans (same_upd m4)).trans (same_upd m5)).trans (same_upd m6)).trans (same_upd m7)).trans (same_upd m8)).trans (same_upd m9)).free m10
    have z_d7 : H d7 = none := (((((((same_upd n1).trans (same_upd n2)).trans (same_upd n3)).trans (same_upd n4)).trans (same_upd n5)).trans (same_upd n6)).trans (same_upd m1)).free m2
    obtain ⟨e, hz, fe⟩ := all_any (N := fun a => a ≠ d ∧ H a = none) (H := H') (but _ _ (T1 _ _ _ upd_same) e_t1) (but _ _ (T2 _ _ _ upd_same) e_t2) (but _ _ (T3 _ _ _ upd_same) e_l3) (but _ _ (T4 _ _ _ upd_same) e4) (but _ _ (T5 _ _ _ upd_same) e_l5) (but _ _ (T7 _ _ _ upd_same) e_t6) (but _ _ (T9 _ _ _ upd_same) e_t8) (but _ _ (T10 _ _ _ upd_same) e_l9) (but _ _ (T11 _ _ _ upd_same) e_l10) (but _ _ (T12 _ _ _ upd_same) e_t11) (but _ _ (T13 _ _ _ upd_same) e_l12) (but _ _ (T16 _ _ _ upd_same) e_t13) (but _ _ (T8 _ _ _ upd_same) e7) ⟨e_t1, z_t1⟩ ⟨e_t2, z_t2⟩ ⟨e_l3, z_l3⟩ ⟨e4, z_d4⟩ ⟨e_l5, z_l5⟩ ⟨e_t6, z_t6⟩ ⟨e_t8, z_t8⟩ ⟨e_l9, z_l9⟩ ⟨e_l10, z_l10⟩ ⟨e_t11, z_t11⟩ ⟨e_l12, z_l12⟩ ⟨e_t13, z_t13⟩ ⟨e7, z_d7⟩ v hv
    exact k v e H' hz fe pen' ((But.same (T0 _)).trans but)
end
end LA
end
section
set_option Elab.async false
set_option linter.all false
set_option maxRecDepth 100000
set_option maxHeartbeats 4100000
namespace XT
open PySem PySem.Spec PyProof.Rows L2
section
variable {X : Cx}
/-- repr of a truth -/
def rReprB : List V → Hp → VK → Prop := fun xs H Q => ∃ b : Bool, xs = [.bl b] ∧ Q (.str (if b then "True" else "False")) H
theorem call_reprB : CallR X (.builtin "repr") rReprB := by
  intro pins s σ
        H xs us Q I r h
  obtain ⟨b, rfl, q⟩ := h
  obtain ⟨u, rfl, e⟩ := vals1 r
  cases e
  exact PySem.P.repr_of_bool ⟨.str _, H, I.tok _, ⟨_, rfl⟩, q⟩
end
section
variable {X : Cx} {CX : CXT} {k : Nat} {f C : Addr} {fd : FuncData} {ps ks : List Str} {sp : Sp} {E : XK} {m : Str} {apos pos : Pos} {o : Expr} {kws : List Keyword} {ta : TE} {tk : TA} {g : List Value → List Value → List Value} {gV : List V → List V → List V} {pl : Sem Bool}
/-- a method by keywords alone: what it asks -/
def tMethKw (C : Addr) (m : Str) (sp : Sp) (gV : List V → List V → List V) (E : XK) (ta : TE) (tk : TA) : TE := fun σ H Q => ta σ H fun x H1 => ∃ a dx fs, x = .ref a ∧ H1 a = some (.ins C dx fs) ∧ fs.lookup m = none ∧ tk σ H1 fun zs H2 => sp (gV [x] zs) H2 Q E
theorem pe_methKw (he : PE X o ta) (c : Cls X.K C) (hm : Meth X.K C m f) (F : FnOk X.prog X.w X.K X.mg X.base CX k f fd ps sp) (hr : Room k X.A) (hb : KBinds X.K fd ps ks g gV) (hx : Passes CX X E) (hkw : PK X kws tk)
    (hall : (backToKw pos (keywordEach kws X.env)).all (·.1.isSome) = true := by rfl) (hks : (backToKw pos (keywordEach kws X.env)).filterMap (·.1) = ks := by rfl)
    (hpl : ((backTo pos (starEach [] X.env)).any (·.1) || (backToKw pos (keywordEach kws X.env)).any (·.1.isNone)) = false := by rfl)
    (ht : eval (.Call (.Attribute o m apos) [] kws pos) X.env = (do
      let ov ← eval o X.env
      standAt apos.atName
      let (f, first) ← holding [ov] (getMethod ov m pl)
      callWith pos f first (backTo pos (starEach [] X.env)) (backToKw pos (keywordEach kws X.env))) := by rfl) :
    PE X (.Call (.Attribute o m apos) [] kws pos) (tMethKw C m sp gV E ta tk) := by
  refine ⟨fun pins s σ H Q I h => ?_⟩
  refine PySem.W.methodCall_KW (pl := pl) (thn (he.run pins s σ H _ I h) fun u s1 ⟨x, H1, I1, rx, a, dx, fs, ex, ea, l, q⟩ => ?_) ht
  subst ex
  obtain rfl : u = Value.ref a := rx
  refine getmeth_ok I1 ea c hm l ?_
  refine PySem.W.callWith_KW0 (first := [.ref a]) (h₀ := X.base) I.ok.mod.kin hm.kp hall (thn (hkw.run pos pins s1 σ H1 _ I1 q) fun ws s2 ⟨zs, H2, I2, rz, q2⟩ => ⟨I2.kIn, ?_⟩) hpl
  rw [hks]
  exact run_fnk (us := [.ref a]) (vs := [.ref a]) F hr hb hx I2 (.cons rfl .nil) rz q2
end
end XT
end
section
set_option Elab.async false
set_option linter.all false
set_option maxRecDepth 100000
set_option maxHeartbeats 4100000
namespace DnX
open PySem PySem.W PySem.Calls PyProof.Rows Builtin Builtin.ObjectAttr Builtin.Getset_descriptor
/-! ### the name of an own class, that its object keeps -/
theorem own_dga (d tp : Value) (C : Addr) : descrGetArgs ⟨[d, .ref C, tp], []⟩ = pure (d, some (.ref C), given tp) := by kernel_rfl
section
variable {prog : Program} {w : World} {A : Around} {E : Value → Shared → Prop} {s : Shared} {K : Frag} {R : Result → Shared → Prop} {C : Addr}
theorem own_get {tp v : Value} {o : Obj} (X : K.In s.heap) (ty : typeIn K (.ref C) = some (.type "type")) (ho : s.heap.get? C = some o) (hs : o.slots[2]? = some (some v)) (h : R (.ok (.ret v)) s) :
    codeAny (model prog w) A (.call (.builtin "getset_descriptor.__get__") ⟨[.builtin "type.__name__", .ref C, tp], []⟩) R s := by
  obtain ⟨hh, g, dr, t, os⟩ := s
  have L0 : Looks (model prog w) hh (typeOf (.ref C)) (.type "type") := looks_typeIn X ty
  have L1 : Looks (model prog w) hh (isSubtype (.type "type") (.type "type")) true := Looks.of_pure (by rw [isSubtype_type]; kernel_rfl)
  refine codeAny_call_builtin KF.slot_gs.plain KF.entry_gs (KF.slot_gs.check _ _ _ _ _ _ _ _ ktyn_type (KF.args_gs _ _ _) ?_)
  unfold Builtin.«getset_descriptor.__get__» descrGet
  rw [own_dga]
  refine wpAny_bind (wpAny_pure ?_)
  unfold descrGetter descrCheckInstance descrNameAndClass isInstance
  simp only [ktyn_owner]
  repeat lk
  refine ⟨Code.quiet_builtin _ (by decide +kernel), codeAny_builtin ktyn_entry ?_⟩
  unfold Builtin.«type.__name__»
  dsimp only
  unfold Builtin.keptObject slotAt
  dsimp only
  refine wpAny_bind (wpAny_bind (wpAny_loadPart ho ?_))
  rw [hs]
  refine wpAny_pure ?_
  exact wpAny_pure h
end
open L2
/-- the own class at D keeps its name nm -/
structure Named (K : Frag) (D : Addr) (nm : Str) : Prop where
  rd : readsIn K D (.type "type") = true
  at_ : findCls K (.ref D) (.type "type") "__name__" = some (.get (.builtin "getset_descriptor.__get__") (.builtin "type.__name__") (.ref D) (.type "type"))
  ty : typeIn K (.ref D) = some (.type "type")
  kept : ∃ (o : Obj) (t : Tok), K.lookup D = some o ∧ o.slots[2]? = some (some (.str nm t))
/-- .. and its instances tell it -/
structure Cled (K : Frag) (D : Addr) : Prop where
  cls : Cls K D
  at_ : findIn K (.ref D) "__class__" = some (some (.builtin "object.__class__"))
  get : specialIn K (.builtin "object.__class__") "__get__" = some (some (.builtin "getset_descriptor.__get__"))
  tak : takesIn K (.builtin "object.__class__") = some true
  obj : mroIn K D (.type "object") = some true
/-- e.__class__.__name__, e an instance of one of the own classes -/
def tCnm (K : Frag) (ta : TE) : TE := fun σ H Q => ta σ H fun x H1 => ∃ (a D dx : Addr) (fs : List (Str × V)) (nm : Str), x = .ref a ∧ H1 a = some (.ins D dx fs) ∧ Cled K D ∧ Named K D nm ∧ Q (.str nm) H1
section
variable {X : Cx} {e : Expr} {ta : TE} {pos p2 : Pos}
theorem pe_cnm (he : PE X e ta) (hb : attributeBase e "__class__" X.env (eval e X.env) = eval e X.env := by rfl)
    (hb2 : attributeBase (.Attribute e "__class__" p2) "__name__" X.env (eval (.Attribute e "__class__" p2) X.env) = eval (.Attribute e "__class__" p2) X.env := by rfl) :
    PE X (.Attribute (.Attribute e "__class__" p2) "__name__" pos) (tCnm X.K ta) := by
  refine ⟨fun pins s σ H Q I h => ?_⟩
  refine attr_of hb2 (attr_of hb (thn (he.run pins s σ H _ I h) fun u s1 ⟨x, H1, I1, rx, a, D, dx, fs, nm, ex, ea, c, n, q⟩ => ?_))
  subst ex
  obtain rfl : u = Value.ref a := rx
  obtain ⟨mA, OM, _⟩ := ins_get I1.hok ea
  obtain ⟨od, IA, _⟩ := OM.look
  obtain ⟨m, fr⟩ := I1.fr
  refine get_class fr I1.mod.kin IA c.cls.pg c.cls.hd c.at_ c.get c.tak c.obj ?_
  have I2 := I1.tok (s1.toks + 1)
  obtain ⟨o, t, lo, hs⟩ := n.kept
  refine cls_bind I2.kIn n.rd n.at_ (wpAny_call (own_get (s := { s1 with toks := s1.toks + 1 + 1 }) I2.kIn n.ty (I2.kIn _ _ lo) hs (handed_on rfl ?_)))
  exact ⟨.str nm, H1, (I2.tok _), ⟨t, rfl⟩, q⟩
end
end DnX
end
section
set_option Elab.async false
set_option linter.all false
set_option maxRecDepth 100000
set_option maxHeartbeats 4100000
namespace LA
open PySem L2 XS XT XK XL LamX XO DnX
/-! ### addresses, and counts -/
inductive A where
  | any
  | last
  | changed
  | number (n : Int)
  | count (n : Int)
  | each (s t : Int)
  | if_ (g : G)
  | kept (g : Option G)
  | not (a : A)
  | range (a b : A)
/-- which class: 8 and on, behind those of the tests -/
def A.cls : A → Nat
  | .any => 8
  | .number _ => 9
  | .each _ _ => 10
  | .last => 11
  | .if_ _ => 12
  | .changed => 13
  | .kept _ => 14
  | .not _ => 15
  | .range _ _ => 16
  | .count _ => 17
def A.isA : A → Bool
  | .count _ => false
  | _ => true
/-- what stands right within -/
def A.inner : A → List A
  | .not a => [a]
  | .range a b => [a, b].filter A.isA
  | _ => []
/-- how deep: a count is 0 -/
def A.dep : A → Nat
  | .not a => 1 + a.dep
  | .range a b => 1 + max a.dep b.dep
  | .count _ => 0
  | _ => 1
/-- it and all within it -/
def A.all : A → List A
  | .not a => .not a :: a.all
  | .range a b => .range a b :: ((if a.isA = true then a.all else []) ++ (if b.isA = true then b.all else []))
  | x => [x]
def A.rng : A → Bool
  | .not a => a.rng
  | .range _ _ => true
  | _ => false
/-- v is this address -/
def AA (C : Nat → Addr) (H : Hp) : A → V → Prop
  | .any, v => ∃ p dx, v = .ref p ∧ H p = some (.ins (C 8) dx [])
  | .number n, v => ∃ p dx, v = .ref p ∧ H p = some (.ins (C 9) dx [("_number", .int n)])
  | .each s t, v => ∃ p dx, v = .ref p ∧ H p = some (.ins (C 10) dx [("_step", .int s), ("_start", .int t)])
  | .last, v => ∃ p dx, v = .ref p ∧ H p = some (.ins (C 11) dx [])
  | .if_ g, v => ∃ p dx u, v = .ref p ∧ H p = some (.ins (C 12) dx [("_test", u)]) ∧ TA C H g u
  | .changed, v => ∃ p dx, v = .ref p ∧ H p = some (.ins (C 13) dx [])
  | .kept none, v => ∃ p dx, v = .ref p ∧ H p = some (.ins (C 14) dx [("_test", .non)])
  | .kept (some g), v => ∃ p dx u, v = .ref p ∧ H p = some (.ins (C 14) dx [("_test", u)]) ∧ TA C H g u
  | .not a, v => ∃ p dx u, v = .ref p ∧ H p = some (.ins (C 15) dx [("_address", u)]) ∧ AA C H a u
  | .range a b, v => ∃ p dx u1 u2, v = .ref p ∧ H p = some (.ins (C 16) dx [("_start", u1), ("_stop", u2)]) ∧ AA C H a u1 ∧ AA C H b u2
  | .count n, v => ∃ p dx, v = .ref p ∧ H p = some (.ins (C 17) dx [("_number", .int n)])
theorem TA.keepI {C : Nat → Addr} {H H' : Hp} (k : ∀ a D dx fs, H a = some (.ins D dx fs) → H' a = some (.ins D dx fs)) : ∀ {g : G} {v : V}, TA C H g v → TA C H' g v
  | .leaf s z, v, ⟨h, a, dx, e, ha⟩ => ⟨h, a, dx, e, k _ _ _ _ ha⟩
  | .fails g, v, ⟨a, dx, u, e, ha, hu⟩ => ⟨a, dx, u, e, k _ _ _ _ ha, TA.keepI k hu⟩
  | .pair s x y, v, ⟨h, a, dx, u1, u2, e, ha, h1, h2⟩ => ⟨h, a, dx, u1, u2, e, k _ _ _ _ ha, TA.keepI k h1, TA.keepI k h2⟩
theorem AA.keep {C : Nat → Addr} {H H' : Hp} (k : ∀ a D dx fs, H a = some (.ins D dx fs) → H' a = some (.ins D dx fs)) : ∀ {a : A} {v : V}, AA C H a v → AA C H' a v
  | .any, v, ⟨p, dx, e, h⟩ => ⟨p, dx, e, k _ _ _ _ h⟩
  | .number _, v, ⟨p, dx, e, h⟩ => ⟨p, dx, e, k _ _ _ _ h⟩
  | .each _ _, v, ⟨p, dx, e, h⟩ => ⟨p, dx, e, k _ _ _ _ h⟩
  | .last, v, ⟨p, dx, e, h⟩ => ⟨p, dx, e, k _ _ _ _ h⟩
  | .if_ _, v, ⟨p, dx, u, e, h, t⟩ => ⟨p, dx, u, e, k _ _ _ _ h, t.keepI k⟩
  | .changed, v, ⟨p, dx, e, h⟩ => ⟨p, dx, e, k _ _ _ _ h⟩
  | .kept none, v, ⟨p, dx, e, h⟩ => ⟨p, dx, e, k _ _ _ _ h⟩
  | .kept (some _), v, ⟨p, dx, u, e, h, t⟩ => ⟨p, dx, u, e, k _ _ _ _ h, t.keepI k⟩
  | .not _, v, ⟨p, dx, u, e, h, t⟩ => ⟨p, dx, u, e, k _ _ _ _ h, AA.keep k t⟩
  | .range _ _, v, ⟨p, dx, u1, u2, e, h, t1, t2⟩ => ⟨p, dx, u1, u2, e, k _ _ _ _ h, AA.keep k t1, AA.keep k t2⟩
  | .count _, v, ⟨p, dx, e, h⟩ => ⟨p, dx, e, k _ _ _ _ h⟩
theorem AA.same {C : Nat → Addr} {H H' : Hp} (s : Same H H') {a : A} {v : V} (h : AA C H a v) : AA C H' a v := h.keep fun _ _ _ _ e => s _ _ e
theorem AA.ext {C : Nat → Addr} {H H' : Hp} (s : ExtN H H') {a : A} {v : V} (h : AA C H a v) : AA C H' a v := h.keep fun _ _ _ _ e => s _ _ e (fun ps z => by cases z)
theorem AA.but {C : Nat → Addr} {H H' : Hp} {d : Addr} {kvs : List (Key × V)} (b : But d H H') (hd : H d = some (.dK kvs)) {a : A} {v : V} (h : AA C H a v) : AA C H' a v :=
  h.keep fun _ _ _ _ e => b _ _ e (ne_of e hd (by intro z; cases z))
theorem AA.at_ {C : Nat → Addr} {H : Hp} : ∀ {a : A} {v : V}, AA C H a v → (8 ≤ a.cls ∧ a.cls < 18) ∧ ∃ p dx fs, v = .ref p ∧ H p = some (.ins (C a.cls) dx fs)
  | .any, v, ⟨p, dx, e, h⟩ => ⟨by decide, p, dx, _, e, h⟩
  | .number _, v, ⟨p, dx, e, h⟩ => ⟨⟨(by show 8 ≤ 9; decide), (by show 9 < 18; decide)⟩, p, dx, _, e, h⟩
  | .each _ _, v, ⟨p, dx, e, h⟩ => ⟨⟨(by show 8 ≤ 10; decide), (by show 10 < 18; decide)⟩, p, dx, _, e, h⟩
  | .last, v, ⟨p, dx, e, h⟩ => ⟨by decide, p, dx, _, e, h⟩
  | .if_ _, v, ⟨p, dx, u, e, h, t⟩ => ⟨⟨(by show 8 ≤ 12; decide), (by show 12 < 18; decide)⟩, p, dx, _, e, h⟩
  | .changed, v, ⟨p, dx, e, h⟩ => ⟨by decide, p, dx, _, e, h⟩
  | .kept none, v, ⟨p, dx, e, h⟩ => ⟨⟨(by show 8 ≤ 14; decide), (by show 14 < 18; decide)⟩, p, dx, _, e, h⟩
  | .kept (some _), v, ⟨p, dx, u, e, h, t⟩ => ⟨⟨(by show 8 ≤ 14; decide), (by show 14 < 18; decide)⟩, p, dx, _, e, h⟩
  | .not _, v, ⟨p, dx, u, e, h, t⟩ => ⟨⟨(by show 8 ≤ 15; decide), (by show 15 < 18; decide)⟩, p, dx, _, e, h⟩
  | .range _ _, v, ⟨p, dx, u1, u2, e, h, t1, t2⟩ => ⟨⟨(by show 8 ≤ 16; decide), (by show 16 < 18; decide)⟩, p, dx, _, e, h⟩
  | .count _, v, ⟨p, dx, e, h⟩ => ⟨⟨(by show 8 ≤ 17; decide), (by show 17 < 18; decide)⟩, p, dx, _, e, h⟩
theorem A.isA_cls (a : A) : a.isA = decide (a.cls ≤ 16) := by cases a <;> rfl
/-- the eighteen classes -/
structure KA (K : PySem.W.Frag) (C : Nat → Addr) (CA : Addr) : Prop where
  kc : KC K C
  cled : ∀ i, 8 ≤ i → i < 18 → Cled K (C i)
  kit : ∀ i j, i < 18 → j < 18 → PySem.W.kitOne K (.ref (C i)) (.ref (C j)) = some (decide (i = j))
  adr : ∀ i, i < 18 → PySem.W.kitOne K (.ref (C i)) (.ref CA) = some (decide (8 ≤ i ∧ i ≤ 16))
  nm : ∀ i, 8 ≤ i → i ≤ 16 → ∃ nm, Named K (C i) nm ∧ decide (V.str nm = V.str "Address") = false
theorem AA.ty {K : PySem.W.Frag} {C : Nat → Addr} {CA : Addr} {H : Hp} (k : KA K C CA) {a : A} {v : V} (h : AA C H a v) : TyX K H v (.ref (C a.cls)) := by
  obtain ⟨⟨l, u⟩, p, dx, fs, rfl, hp⟩ := h.at_
  have c := k.cled _ l u
  exact .base (.ins hp c.cls c.at_ c.get c.tak c.obj)
/-- a value or an address -/
def ThV (C : Nat → Addr) (H : Hp) (x : V) (o : Option A) : Prop := (AnyV H x ∧ o = none) ∨ ∃ a, AA C H a x ∧ o = some a
theorem ThV.same {C : Nat → Addr} {H H' : Hp} {x : V} {o : Option A} (s : Same H H') (h : ThV C H x o) : ThV C H' x o := by
  rcases h with ⟨a, e⟩ | ⟨a, b, e⟩
  · exact .inl ⟨a.same s, e⟩
  · exact .inr ⟨a, b.same s, e⟩
theorem kit_bi2 {K : PySem.W.Frag} {D B : Addr} {r : Bool} (z : PySem.W.kitOne K (.ref B) (.ref D) = some r) (ne : B ≠ D) {n : String} {l : List String} (m : fastBuiltinMro n = some (l.map Value.type)) : PySem.W.kitOne K (.type n) (.ref D) = some false := by
  unfold PySem.W.kitOne at z ⊢
  have h1 : (Value.type n == Value.ref D) = false := rfl
  have h2 : (Value.ref B == Value.ref D) = false := by simpa using ne
  rw [h1]
  rw [h2] at z
  rw [if_neg Bool.false_ne_true] at z ⊢
  unfold PySem.W.kitCls at z ⊢
  dsimp only at z ⊢
  split at z
  · rename_i cnd
    rw [if_pos cnd]
    show (fastBuiltinMro n).map (·.contains (Value.ref D)) = some false
    rw [m]
    show some ((l.map Value.type).contains (Value.ref D)) = some false
    rw [no_ref]
  · cases z
/-- no value of Python's own is of an own class -/
theorem KA.out {K : PySem.W.Frag} {C : Nat → Addr} {CA : Addr} (k : KA K C CA) {n : String} (h : n = "str" ∨ n ∈ tyN) {j : Nat} (hj : j < 18) : PySem.W.kitOne K (.type n) (.ref (C j)) = some false := by
  obtain ⟨l, hl⟩ := tyN_mro n h
  obtain ⟨i, hi, ne⟩ : ∃ i, i < 18 ∧ i ≠ j := by
    by_cases h : j = 0
    · exact ⟨1, by decide, by omega⟩
    · exact ⟨0, by decide, by omega⟩
  have z := k.kit i j hi hj
  rw [decide_eq_false ne] at z
  refine kit_bi2 z (fun e => ?_) hl
  have z2 := k.kit j j hj hj
  rw [e] at z
  rw [z, decide_eq_true rfl] at z2
  cases z2
theorem KA.outA {K : PySem.W.Frag} {C : Nat → Addr} {CA : Addr} (k : KA K C CA) {n : String} (h : n = "str" ∨ n ∈ tyN) : PySem.W.kitOne K (.type n) (.ref CA) = some false := by
  obtain ⟨l, hl⟩ := tyN_mro n h
  have z := k.adr 0 (by decide)
  refine kit_bi2 z (fun e => ?_) hl
  have z2 := k.kit 0 0 (by decide) (by decide)
  rw [← e] at z
  rw [z] at z2
  cases z2
structure NamA (mg : Str → Option Value) (C : Nat → Addr) (CA : Addr) : Prop where
  isM : mg "isinstance" = none
  adr : mg "Address" = some (.ref CA)
  any : mg "Any" = some (.ref (C 8))
  number : mg "Number" = some (.ref (C 9))
  each : mg "Each" = some (.ref (C 10))
  last : mg "Last" = some (.ref (C 11))
  if_ : mg "If" = some (.ref (C 12))
  changed : mg "Changed" = some (.ref (C 13))
  kept : mg "Kept" = some (.ref (C 14))
  not : mg "Not" = some (.ref (C 15))
  range : mg "Range" = some (.ref (C 16))
  count : mg "Count" = some (.ref (C 17))
abbrev sIsA : Stmt := top 51
section
variable {P : Program} {w : World} {K : PySem.W.Frag} {mg : Str → Option Value} {base : Heap} {C : Nat → Addr} {CA : Addr}
/-- is_address -/
def isA? : Option A → Bool
  | some a => a.isA
  | none => false
def spIsA (C : Nat → Addr) : Sp := fun vs H Q _ => ∃ (x : V) (o : Option A), vs = [x] ∧ ThV C H x o ∧ ∀ H', Same H H' → Q (.bl (isA? o)) H'
theorem scIa : FnScope ["value"] ["value"] (defScope sIsA) := ⟨rfl, rfl, rfl, by decide +kernel, rfl, by decide +kernel, by decide +kernel⟩
theorem ok_isA {f : Addr} {fd : FuncData} (F : Fun K "is_address" "is_address" sIsA f fd) (N : NamA mg C CA) (k : KA K C CA) : FnOk P w K mg base CX0 1 f fd ["value"] (spIsA C) := by
  refine F.ok scIa (fun vs H Q E h => ?_) (fun cdv A outer s H vs Q E hr h => ?_)
  · obtain ⟨x, o, rfl, _⟩ := h
    rfl
  · obtain ⟨x, o, rfl, hx, q⟩ := h
    refine ⟨_, pss_one (by exact (ps_ret (pe_and (pe_callB call_isi (by rfl) N.isM (by decide +kernel) (pa_cons (pv 0) (pa_cons (pe_glob (v := .ref CA) rfl N.adr rfl) pa_nil))) (pe_one (pe_cmpR op_ne (pe_cnm (pv 0)) pe_str (nomark _)))))), ?_⟩
    have q0 := q H (fun _ _ z => z)
    rcases hx with ⟨a, rfl⟩ | ⟨a, ha, rfl⟩
    · obtain ⟨n, hn, ty⟩ := a.cls (K := K)
      exact ⟨_, rfl, _, _, _, _, _, rfl, .own CA, ty, k.outA hn, _, rfl, iteF q0⟩
    · refine ⟨_, rfl, _, _, _, _, _, rfl, .own CA, ha.ty k, k.adr _ ha.at_.1.2, _, rfl, ?_⟩
      obtain ⟨⟨l, u⟩, p, dx, fs, rfl, hp⟩ := ha.at_
      have e : isA? (some a) = decide (8 ≤ a.cls ∧ a.cls ≤ 16) := by
        show a.isA = _
        rw [a.isA_cls]
        by_cases z : a.cls ≤ 16
        · rw [decide_eq_true z, decide_eq_true ⟨l, z⟩]
        · rw [decide_eq_false z, decide_eq_false (fun y => z y.2)]
      rw [e] at q0
      by_cases z : 8 ≤ a.cls ∧ a.cls ≤ 16
      · rw [decide_eq_true z] at q0 ⊢
        obtain ⟨nm, hn, ne⟩ := k.nm _ z.1 z.2
        refine iteT ⟨_, rfl, p, C a.cls, dx, fs, nm, rfl, hp, k.cled _ l u, hn, rfl, ?_⟩
        rw [ne]
        exact q0
      · rw [decide_eq_false z] at q0 ⊢
        exact iteF q0
end
end LA
end
section
set_option Elab.async false
set_option linter.all false
set_option maxRecDepth 100000
set_option maxHeartbeats 4100000
namespace LA
open PySem L2 XS XT XK XL LamX XO DnX
abbrev sInner : Stmt := top 52
abbrev sAof : Stmt := top 53
abbrev sRof : Stmt := top 54
abbrev sDepA : Stmt := top 55
abbrev sFitA : Stmt := top 57
theorem A.inner_len (a : A) : a.inner.length ≤ 2 := by
  cases a with
  | not a => exact Nat.le_succ 1
  | range a b => exact Nat.le_trans (List.length_filter_le _ _) (Nat.le_refl _)
  | _ => exact Nat.zero_le _
theorem paired_getA {C : Nat → Addr} {H : Hp} : ∀ {gs : List A} {us : List V} {i : Nat} {u : V}, Paired (fun g u => AA C H g u) gs us → us[i]? = some u → ∃ g, gs[i]? = some g ∧ AA C H g u
  | _, _, i, u, .nil, h => by simp at h
  | _, _, 0, u, .cons a b, h => by
    rw [List.getElem?_cons_zero] at h
    cases h
    exact ⟨_, rfl, a⟩
  | _, _, i + 1, u, .cons a b, h => by
    rw [List.getElem?_cons_succ] at h ⊢
    exact paired_getA b h
theorem paired_lenA {C : Nat → Addr} {H : Hp} : ∀ {gs : List A} {us : List V}, Paired (fun g u => AA C H g u) gs us → gs.length = us.length
  | _, _, .nil => rfl
  | _, _, .cons a b => by rw [List.length_cons, List.length_cons, paired_lenA b]
theorem paired_sameA {C : Nat → Addr} {H H' : Hp} (s : Same H H') {gs : List A} {us : List V} (p : Paired (fun g u => AA C H g u) gs us) : Paired (fun g u => AA C H' g u) gs us := Paired.mapP p fun _ _ z => z.same s
theorem pair_app {α β : Type} {R : α → β → Prop} : ∀ {bs cs : List α} {vs ws : List β}, Paired R bs vs → Paired R cs ws → Paired R (bs ++ cs) (vs ++ ws)
  | _, _, _, _, .nil, b => b
  | _, _, _, _, .cons a r, b => .cons a (pair_app r b)
section
variable {P : Program} {w : World} {K : PySem.W.Frag} {mg : Str → Option Value} {base : Heap} {C : Nat → Addr} {CA : Addr}
def spInner (C : Nat → Addr) : Sp := fun vs H Q _ => ∃ (a : A) (v : V), vs = [v] ∧ AA C H a v ∧ ∀ (p : Addr) (us : List V) (H' : Hp), H' p = some (.lst us) → H p = none → Paired (fun g u => AA C H' g u) a.inner us → Same H H' → Q (.ref p) H'
theorem scIn : FnScope ["address", "each"] ["address"] (defScope sInner) := ⟨rfl, rfl, rfl, by decide +kernel, rfl, by decide +kernel, by decide +kernel⟩
/-- the properties of Not and Range -/
structure GetA (P : Program) (w : World) (K : PySem.W.Frag) (mg : Str → Option Value) (base : Heap) (C p g : Nat → Addr) (fd : Nat → FuncData) : Prop where
  n : PropAt P w K mg base (C 15) "address" "_address" (p 0) (g 0) (fd 0)
  s : PropAt P w K mg base (C 16) "start" "_start" (p 1) (g 1) (fd 1)
  t : PropAt P w K mg base (C 16) "stop" "_stop" (p 2) (g 2) (fd 2)
theorem ok_inner {f f1 : Addr} {fd fd1 : FuncData} {p g : Nat → Addr} {fg : Nat → FuncData} (F : Fun K "inner" "inner" sInner f fd) (N : NamA mg C CA) (k : KA K C CA) (M : GetA P w K mg base C p g fg) (IA : CallOf P w K mg base 1 "is_address" ["value"] (spIsA C) f1 fd1) :
    FnOk P w K mg base CX0 3 f fd ["address"] (spInner C) := by
  refine F.ok scIn (fun vs H Q E h => ?_) (fun cdv A outer s H vs Q E hr h => ?_)
  · obtain ⟨a, v, rfl, _⟩ := h
    rfl
  · obtain ⟨t, v, rfl, ht, q⟩ := h
    have hr1 : Room 1 _ := hr.mono (by decide)
    refine ⟨_, pss_cons (by exact (ps_if (pt_val (pe_callB call_isi (by rfl) N.isM (by decide +kernel) (pa_cons (pv 0) (pa_cons (pe_glob (v := .ref (C 15)) rfl N.not rfl) pa_nil)))) (pss_one (by exact (ps_ret (pe_lst (pa_cons (pe_prop (pv 0) (k.cled 15 (by decide) (by decide)).cls M.n.prop M.n.ok hr M.n.b .nil pass0 rfl) pa_nil))))) pss_nil)) (
      pss_cons (by exact (ps_if (pt_val (pe_callB call_isi (by rfl) N.isM (by decide +kernel) (pa_cons (pv 0) (pa_cons (pe_glob (v := .ref (C 16)) rfl N.range rfl) pa_nil)))) (pss_one (by exact (ps_ret (pe_lc (own := [("each", 1)]) (g := gName 1) (tt := tB (tCall (spIsA C) [] (fun _ _ _ => False) (tCons (tVar 1) tNil))) (te := tVar 1) rfl scIn.nd
          (pi_tup (pe_tup (pa_cons (pe_prop (pv 0) (k.cled 16 (by decide) (by decide)).cls M.s.prop M.s.ok hr M.s.b .nil pass0 rfl) (pa_cons (pe_prop (pv 0) (k.cled 16 (by decide) (by decide)).cls M.t.prop M.t.ok hr M.t.b .nil pass0 rfl) pa_nil))))
          (blkOk_by (N := ["address", "each"]) (sc := defScope sInner) (by decide +kernel))
          (fun _ _ _ _ _ => by exact (pg_name (i := 1) scIn.nd rfl (Or.inl rfl)))
          (fun _ _ _ _ _ => by exact (pts_one (pt_val (pe_call IA.ok hr1 rfl IA.m IA.k IA.b .nil pass0 (pa_cons (pv 1) pa_nil)))))
          (fun _ _ _ _ _ => by exact (pv 1)))))) pss_nil)) (
      pss_one (by exact (ps_ret (pe_lst pa_nil))))), ?_⟩
    obtain ⟨⟨l8, u18⟩, _⟩ := id ht.at_
    refine ⟨_, rfl, _, _, _, _, _, rfl, .own (C 15), ht.ty k, k.kit _ _ u18 (by decide), _, rfl, ?_⟩
    by_cases e15 : t.cls = 15
    · rw [decide_eq_true e15]
      cases t with
      | not a =>
        obtain ⟨p1, dx, u, rfl, hp, hu⟩ := ht
        refine iteT ⟨_, rfl, p1, dx, _, rfl, hp, p1, dx, _, u, rfl, hp, look1, (by show 1 ≤ sizeLine; decide), fun L nL => ?_⟩
        have sm := same_upd (o := .lst [u]) nL
        exact q L [u] _ upd_same nL (.cons (hu.same sm) .nil) sm
      | _ => exact absurd e15 (by simp [LA.A.cls])
    · rw [decide_eq_false e15]
      refine iteF ⟨_, rfl, _, _, _, _, _, rfl, .own (C 16), ht.ty k, k.kit _ _ u18 (by decide), _, rfl, ?_⟩
      by_cases e16 : t.cls = 16
      · rw [decide_eq_true e16]
        cases t with
        | range a b =>
          obtain ⟨p1, dx, u1, u2, rfl, hp, h1, h2⟩ := ht
          refine iteT ⟨_, rfl, p1, dx, _, rfl, hp, p1, dx, _, u1, rfl, hp, (by first | rfl | simp), ⟨_, rfl, p1, dx, _, rfl, hp, p1, dx, _, u2, rfl, hp, (by first | rfl | simp), (by show 2 ≤ sizeLine; decide), fun T nT => ⟨T, rfl, ⟨_, SqT.of upd_same⟩, fun D nD => ?_⟩⟩⟩
          have sT := same_upd (o := .tup [u1, u2]) nT
          have two : Paired (fun g u => AA C (upd H T (.tup [u1, u2])) g u) [a, b] [u1, u2] := .cons (h1.same sT) (.cons (h2.same sT) .nil)
          have hT : (upd H T (.tup [u1, u2])) T = some (.tup [u1, u2]) := upd_same
          generalize upd H T (.tup [u1, u2]) = H1 at sT two hT nD ⊢
          refine lc_it (walk_tup (xs := [u1, u2])) (fun i X => (∃ acc, X D = some (.lst acc) ∧ acc.length ≤ i ∧ Paired (fun g u => AA C X g u) (([a, b].take i).filter LA.A.isA) acc) ∧ Same H1 X) ⟨⟨[], upd_same, Nat.le_refl _, .nil⟩, same_upd nD⟩ (fun i X _ p2 => SqT.of (p2.2 _ _ hT)) (fun i x X X' hi p2 yl => ?_) (fun X p2 => ?_)
          · obtain ⟨⟨acc, pD, pl, pp⟩, pS⟩ := p2
            obtain ⟨rfl, hx⟩ := yl
            obtain ⟨kk, hk, tk⟩ := paired_getA two hx
            refine ⟨rfl, ?_⟩
            refine ⟨_, rfl, x, some kk, rfl, .inr ⟨kk, tk.same pS, rfl⟩, fun Z sZ => ⟨_, rfl, ?_⟩⟩
            have nx : ([a, b].take (i + 1)).filter LA.A.isA = ([a, b].take i).filter LA.A.isA ++ [kk].filter LA.A.isA := by
              rw [List.take_succ, hk, List.filter_append]
              rfl
            have i2 : i < 2 := hi
            cases ek : kk.isA with
            | true =>
              show (if isA? (some kk) = true then _ else _)
              rw [show isA? (some kk) = true from ek, if_pos rfl]
              have ne : [kk].filter LA.A.isA = [kk] := by simp [ek]
              refine ⟨_, rfl, acc, sZ _ _ pD, Nat.lt_of_le_of_lt (show acc.length ≤ 2 by omega) (by decide), ⟨acc ++ [x], upd_same, by rw [List.length_append]; exact Nat.add_le_add pl (Nat.le_refl 1), ?_⟩, fun b u e => ?_⟩
              · rw [nx, ne]
                have sU : ∀ (a : LA.A) (v : V), AA C X' a v → AA C (upd Z D (.lst (acc ++ [x]))) a v := fun a v z => (z.same sZ).keep fun b D2 dx fs e => by
                  rw [upd_ne (ne_of e (sZ _ _ pD) (by intro z; cases z))]
                  exact e
                exact pair_app (Paired.mapP pp sU) (.cons (sU _ _ (tk.same pS)) .nil)
              · rw [upd_ne (ne_of_none e nD)]
                exact sZ _ _ (pS _ _ e)
            | false =>
              show (if isA? (some kk) = true then _ else _)
              rw [show isA? (some kk) = false from ek, if_neg Bool.false_ne_true]
              have ne : [kk].filter LA.A.isA = [] := by simp [ek]
              exact ⟨⟨acc, sZ _ _ pD, by omega, by rw [nx, ne, List.append_nil]; exact paired_sameA sZ pp⟩, pS.trans sZ⟩
          · obtain ⟨⟨acc, pD, pl, pp⟩, pS⟩ := p2
            exact q D acc X pD (fresh_back sT nD) pp (sT.trans pS)
        | _ => exact absurd e16 (by simp [LA.A.cls])
      · rw [decide_eq_false e16]
        refine iteF ⟨(by show 0 ≤ sizeLine; decide), fun L nL => ?_⟩
        have sm := same_upd (o := .lst []) nL
        have e0 : t.inner = [] := by
          cases t with
          | not a => exact absurd rfl e15
          | range a b => exact absurd rfl e16
          | _ => rfl
        exact q L [] _ upd_same nL (by rw [e0]; exact .nil) sm
end
end LA
end
section
set_option Elab.async false
set_option linter.all false
set_option maxRecDepth 100000
set_option maxHeartbeats 4100000
namespace LA
open PySem L2 XS XT XK XL LamX XO DnX
theorem A.inner_dep : ∀ a : A, ∀ k ∈ a.inner, k.dep + 1 ≤ a.dep
  | .not a, k, h => by
    obtain rfl : k = a := by simpa [A.inner] using h
    show k.dep + 1 ≤ 1 + k.dep
    omega
  | .range a b, k, h => by
    have h2 : k ∈ [a, b] := (List.mem_filter.mp h).1
    have e : k = a ∨ k = b := by simpa using h2
    show k.dep + 1 ≤ 1 + max a.dep b.dep
    rcases e with rfl | rfl <;> omega
  | .any, k, h => absurd h (by simp [A.inner])
  | .last, k, h => absurd h (by simp [A.inner])
  | .changed, k, h => absurd h (by simp [A.inner])
  | .number _, k, h => absurd h (by simp [A.inner])
  | .count _, k, h => absurd h (by simp [A.inner])
  | .each _ _, k, h => absurd h (by simp [A.inner])
  | .if_ _, k, h => absurd h (by simp [A.inner])
  | .kept _, k, h => absurd h (by simp [A.inner])
theorem A.dep_pos {a : A} (h : a.isA = true) : 1 ≤ a.dep := by
  cases a with
  | count n => cases h
  | not a => show 1 ≤ 1 + a.dep; omega
  | range a b => show 1 ≤ 1 + max a.dep b.dep; omega
  | _ => exact Nat.le_refl 1
theorem A.inner_isA : ∀ {a : A}, (∀ k ∈ a.inner, k.isA = true) ∨ ∃ b, a = .not b
  | .not a => .inr ⟨a, rfl⟩
  | .range a b => .inl fun k h => (List.mem_filter.mp h).2
  | .any => .inl fun k h => absurd h (by simp [A.inner])
  | .last => .inl fun k h => absurd h (by simp [A.inner])
  | .changed => .inl fun k h => absurd h (by simp [A.inner])
  | .number _ => .inl fun k h => absurd h (by simp [A.inner])
  | .count _ => .inl fun k h => absurd h (by simp [A.inner])
  | .each _ _ => .inl fun k h => absurd h (by simp [A.inner])
  | .if_ _ => .inl fun k h => absurd h (by simp [A.inner])
  | .kept _ => .inl fun k h => absurd h (by simp [A.inner])
/-- made as it may be: addresses where addresses are wanted -/
def A.wf : A → Prop
  | .not a => a.wf ∧ a.isA = true
  | .range a b => a.wf ∧ b.wf ∧ a.isA = true
  | _ => True
theorem A.inner_wf : ∀ {a : A}, a.wf → ∀ k ∈ a.inner, k.wf ∧ k.isA = true
  | .not a, h, k, m => by
    obtain rfl : k = a := by simpa [A.inner] using m
    exact h
  | .range a b, h, k, m => by
    have h2 := List.mem_filter.mp m
    have e : k = a ∨ k = b := by simpa using h2.1
    rcases e with rfl | rfl
    · exact ⟨h.1, h2.2⟩
    · exact ⟨h.2.1, h2.2⟩
  | .any, _, k, m => absurd m (by simp [A.inner])
  | .last, _, k, m => absurd m (by simp [A.inner])
  | .changed, _, k, m => absurd m (by simp [A.inner])
  | .number _, _, k, m => absurd m (by simp [A.inner])
  | .count _, _, k, m => absurd m (by simp [A.inner])
  | .each _ _, _, k, m => absurd m (by simp [A.inner])
  | .if_ _, _, k, m => absurd m (by simp [A.inner])
  | .kept _, _, k, m => absurd m (by simp [A.inner])
/-- the greatest of what stands within -/
theorem A.inner_max (a : A) (wf : a.wf) (ia : a.isA = true) (m : Int) (h : ((a.inner.map fun k => (k.dep : Int)) = [] ∧ m = 0) ∨ (m ∈ (a.inner.map fun k => (k.dep : Int)) ∧ ∀ y ∈ (a.inner.map fun k => (k.dep : Int)), y ≤ m)) : 1 + m = (a.dep : Int) := by
  cases a with
  | not a =>
    rcases h with ⟨h, _⟩ | ⟨h, _⟩
    · exact absurd h (by simp [A.inner])
    · obtain rfl : m = (a.dep : Int) := by simpa [A.inner] using h
      show 1 + (a.dep : Int) = ((1 + a.dep : Nat) : Int)
      omega
  | range a b =>
    have ha : a.isA = true := wf.2.2
    show 1 + m = ((1 + max a.dep b.dep : Nat) : Int)
    cases hb : b.isA with
    | true =>
      have ei : (A.range a b).inner = [a, b] := by simp [A.inner, ha, hb]
      rw [ei] at h
      rcases h with ⟨h, _⟩ | ⟨h, h2⟩
      · exact absurd h (by simp)
      · have e : m = (a.dep : Int) ∨ m = (b.dep : Int) := by simpa using h
        have h3 := h2 (a.dep : Int) (by simp)
        have h4 := h2 (b.dep : Int) (by simp)
        omega
    | false =>
      have ei : (A.range a b).inner = [a] := by simp [A.inner, ha, hb]
      rw [ei] at h
      have e0 : b.dep = 0 := by
        cases b with
        | count n => rfl
        | _ => cases hb
      rcases h with ⟨h, _⟩ | ⟨h, h2⟩
      · exact absurd h (by simp)
      · have e : m = (a.dep : Int) := by simpa using h
        omega
  | count n => cases ia
  | _ =>
    rcases h with ⟨_, rfl⟩ | ⟨h, _⟩
    · rfl
    · exact absurd h (by simp [A.inner])
section
variable {P : Program} {w : World} {K : PySem.W.Frag} {mg : Str → Option Value} {base : Heap} {C : Nat → Addr} {CA : Addr}
/-- depth_of of an address of at most n -/
def spDepA (C : Nat → Addr) (n : Nat) : Sp := fun vs H Q _ => ∃ (a : A) (v : V), vs = [v] ∧ AA C H a v ∧ a.wf ∧ a.isA = true ∧ a.dep ≤ n ∧ ∀ H', Same H H' → Q (.int (a.dep : Int)) H'
theorem scDa : FnScope ["address", "each"] ["address"] (defScope sDepA) := ⟨rfl, rfl, rfl, by decide +kernel, rfl, by decide +kernel, by decide +kernel⟩
theorem ok_depA {f f1 : Addr} {fd fd1 : FuncData} (F : Fun K "depth_of" "depth_of" sDepA f fd) (mX : mg "max" = none) (mD : mg "depth_of_scripts" = some (.ref f)) (kD : PySem.W.keepIn K (.ref f) = true) (bD : Binds K fd ["address"] []) (M : CallOf P w K mg base 3 "inner" ["address"] (spInner C) f1 fd1) :
    ∀ n, FnOk P w K mg base CX0 (n + 3) f fd ["address"] (spDepA C n) := by
  intro n
  induction n with
  | zero =>
    refine F.ok scDa (fun vs H Q E h => ?_) (fun cdv A outer s H vs Q E hr h => ?_)
    · obtain ⟨a, v, rfl, _⟩ := h
      rfl
    · obtain ⟨a, v, rfl, _, _, ia, d, _⟩ := h
      have := LA.A.dep_pos ia
      omega
  | succ n ih =>
    refine F.ok scDa (fun vs H Q E h => ?_) (fun cdv A outer s H vs Q E hr h => ?_)
    · obtain ⟨a, v, rfl, _⟩ := h
      rfl
    · obtain ⟨t, v, rfl, ht, wf, ia, hd, q⟩ := h
      have hr3 : Room 3 _ := hr.mono (by omega)
      refine ⟨_, pss_one (by exact (ps_ret (pe_op op_add pe_int (pe_callBK (cr_maxOr rfl) (by rfl) mX (by decide +kernel) (pa_cons (pe_lc (own := [("each", 1)]) (g := gName 1) (tt := tYes) (te := tCall (spDepA C n) [] (fun _ _ _ => False) (tCons (tVar 1) tNil)) rfl scDa.nd (pi_list (pe_call M.ok hr3 rfl M.m M.k M.b .nil pass0 (pa_cons (pv 0) pa_nil)))
        (blkOk_by (N := ["address", "each"]) (sc := defScope sDepA) (by decide +kernel))
        (fun _ _ _ _ _ => by exact (pg_name (i := 1) scDa.nd rfl (Or.inl rfl)))
        (fun _ _ _ _ _ => by exact pts_nil)
        (fun _ _ _ _ _ => by exact (pe_call ih hr rfl mD kD bD .nil pass0 (pa_cons (pv 1) pa_nil)))) pa_nil) (pk_cons pe_int pk_nil))))), ?_⟩
      refine ⟨_, rfl, t, v, rfl, ht, fun p us H1 hp np kids s1 => ?_⟩
      refine ⟨p, rfl, ⟨us, SqL.of hp⟩, fun D nD => ?_⟩
      have nDp : p ≠ D := ne_of_none hp nD
      refine lc_it (walk_list (xs := us)) (fun i X => X D = some (.lst ((t.inner.take i).map fun k => V.int (k.dep : Int))) ∧ Same H1 X) ⟨upd_same, same_upd nD⟩ (fun i X _ p2 => SqL.of (p2.2 _ _ hp)) (fun i x X X' hi p2 yl => ?_) (fun X p2 => ?_)
      · obtain ⟨pD, pS⟩ := p2
        obtain ⟨rfl, hx⟩ := yl
        obtain ⟨k, hk, tk⟩ := paired_getA kids hx
        refine ⟨rfl, ?_⟩
        dsimp only [tYes]
        rw [if_pos rfl]
        have kd := t.inner_dep k (List.mem_of_getElem? hk)
        obtain ⟨kw, ki⟩ := LA.A.inner_wf wf k (List.mem_of_getElem? hk)
        refine ⟨_, rfl, k, _, rfl, tk.same pS, kw, ki, by omega, fun X2 s2 => ⟨_, s2 _ _ pD, ?_, ?_, ?_⟩⟩
        · rw [List.length_map, List.length_take]
          have := t.inner_len
          exact Nat.lt_of_le_of_lt (Nat.le_trans (Nat.min_le_right _ _) this) (by decide)
        · rw [List.take_succ, hk, List.map_append]
          exact upd_same
        · intro b o e
          rw [upd_ne (ne_of_none e nD)]
          exact s2 _ _ (pS b o e)
      · obtain ⟨pD, pS⟩ := p2
        have e : t.inner.take us.length = t.inner := List.take_of_length_le (by rw [paired_lenA kids]; exact Nat.le_refl _)
        rw [e] at pD
        refine ⟨D, t.inner.map fun k => (k.dep : Int), 0, rfl, rfl, SqL.of (by rw [pD, List.map_map]; rfl), fun m hm => ⟨_, _, rfl, rfl, ?_⟩⟩
        show Q (.int (1 + m)) X
        rw [t.inner_max wf ia m hm]
        exact q X (s1.trans pS)
/-- fits_within of any value, address or count -/
def fitA : Option A → Bool
  | some a => a.isA && decide (a.dep < 8)
  | none => false
def spFitA (C : Nat → Addr) : Sp := fun vs H Q _ => ∃ (x : V) (o : Option A), vs = [x] ∧ ThV C H x o ∧ (∀ a, o = some a → a.wf ∧ a.dep ≤ 8) ∧ ∀ H', Same H H' → Q (.bl (fitA o)) H'
theorem scFa : FnScope ["value"] ["value"] (defScope sFitA) := ⟨rfl, rfl, rfl, by decide +kernel, rfl, by decide +kernel, by decide +kernel⟩
theorem ok_fitA {f f1 f2 : Addr} {fd fd1 fd2 : FuncData} {t5 : Tok} (F : Fun K "fits_within" "fits_within" sFitA f fd) (mM : mg "MAX_DEPTH" = some (.int 8 t5)) (M : CallOf P w K mg base 1 "is_address" ["value"] (spIsA C) f1 fd1) (D : CallOf P w K mg base 11 "depth_of_scripts" ["address"] (spDepA C 8) f2 fd2) :
    FnOk P w K mg base CX0 12 f fd ["value"] (spFitA C) := by
  refine F.ok scFa (fun vs H Q E h => ?_) (fun cdv A outer s H vs Q E hr h => ?_)
  · obtain ⟨x, r, rfl, _⟩ := h
    rfl
  · obtain ⟨x, o, rfl, hx, hw, q⟩ := h
    have hr1 : Room 1 _ := hr.mono (by decide)
    refine ⟨_, pss_one (by exact (ps_ret (pe_and (pe_call M.ok hr1 rfl M.m M.k M.b .nil pass0 (pa_cons (pv 0) pa_nil)) (pe_one (pe_cmpR op_lt (pe_call D.ok hr rfl D.m D.k D.b .nil pass0 (pa_cons (pv 0) pa_nil)) (pe_glob (v := .int 8) rfl mM ⟨_, rfl⟩) (nomark _)))))), ?_⟩
    refine ⟨_, rfl, x, o, rfl, hx, fun H1 s1 => ⟨_, rfl, ?_⟩⟩
    have q0 := q H1 s1
    cases o with
    | none => exact iteF q0
    | some a =>
      cases ia : a.isA with
      | false =>
        have e : fitA (some a) = false := by
          show (a.isA && _) = false
          rw [ia]
          rfl
        rw [e] at q0
        show (if isA? (some a) = true then _ else _)
        rw [show isA? (some a) = false from ia]
        exact iteF q0
      | true =>
        show (if isA? (some a) = true then _ else _)
        rw [show isA? (some a) = true from ia]
        rcases hx with ⟨_, e⟩ | ⟨a', ha, e⟩
        · cases e
        · cases e
          obtain ⟨wf, d8⟩ := hw a rfl
          refine iteT ⟨_, rfl, a, x, rfl, ha.same s1, wf, ia, d8, fun H2 s2 => ⟨_, _, rfl, rfl, ?_⟩⟩
          show Q (.bl (decide ((a.dep : Int) < 8))) H2
          have e : decide ((a.dep : Int) < 8) = fitA (some a) := by
            show _ = (a.isA && decide (a.dep < 8))
            rw [ia, Bool.true_and]
            by_cases h : a.dep < 8
            · rw [decide_eq_true h, decide_eq_true (by omega)]
            · rw [decide_eq_false h, decide_eq_false (by omega)]
          rw [e]
          exact q H2 (s1.trans s2)
end
end LA
end
section
set_option Elab.async false
set_option linter.all false
set_option maxRecDepth 100000
set_option maxHeartbeats 4100000
namespace LA
open PySem L2 XS XT XK XL LamX XO DnX
theorem A.all_eq : ∀ {a : A}, a.wf → a.all = a :: a.inner.flatMap A.all
  | .not a, _ => by
    show _ :: a.all = _
    simp [A.inner]
  | .range a b, wf => by
    have ha : a.isA = true := wf.2.2
    show _ :: ((if a.isA = true then a.all else []) ++ (if b.isA = true then b.all else [])) = _
    cases hb : b.isA <;> simp [A.inner, ha, hb]
  | .any, _ => rfl
  | .last, _ => rfl
  | .changed, _ => rfl
  | .number _, _ => rfl
  | .count _, _ => rfl
  | .each _ _, _ => rfl
  | .if_ _, _ => rfl
  | .kept _, _ => rfl
theorem flat_le {l : List A} {k : A} (h : k ∈ l) : k.all.length ≤ (l.flatMap A.all).length := by
  induction l with
  | nil => cases h
  | cons x r ih =>
    rw [List.flatMap_cons, List.length_append]
    rcases List.mem_cons.mp h with e | e
    · rw [e]
      omega
    · have := ih e
      omega
theorem flat_take {l : List A} {i : Nat} {k : A} (h : l[i]? = some k) : (l.take (i + 1)).flatMap A.all = (l.take i).flatMap A.all ++ k.all := by
  rw [List.take_succ, h, List.flatMap_append]
  simp
theorem flat_take_le (l : List A) (i : Nat) : ((l.take i).flatMap A.all).length ≤ (l.flatMap A.all).length := by
  have e : l.flatMap A.all = (l.take i).flatMap A.all ++ (l.drop i).flatMap A.all := by
    rw [← List.flatMap_append, List.take_append_drop]
  rw [e, List.length_append]
  omega
theorem PE.of {X : Cx} {e : Expr} {t t' : TE} (h : PE X e t) (i : ∀ σ H Q, t' σ H Q → t σ H Q) : PE X e t' := ⟨fun pins s σ H Q I w => h.run pins s σ H Q I (i σ H Q w)⟩
section
variable {P : Program} {w : World} {K : PySem.W.Frag} {mg : Str → Option Value} {base : Heap} {C : Nat → Addr} {CA : Addr}
/-- addresses_of of an address of at most n -/
def spAof (C : Nat → Addr) (n : Nat) : Sp := fun vs H Q _ => ∃ (a : A) (v : V), vs = [v] ∧ AA C H a v ∧ a.wf ∧ a.isA = true ∧ a.dep ≤ n ∧ a.all.length ≤ 1000 ∧ ∀ (p : Addr) (us : List V) (H' : Hp), H' p = some (.lst us) → H p = none → Paired (fun g u => AA C H' g u) a.all us → Same H H' → Q (.ref p) H'
theorem scAf : FnScope ["address", "each", "found"] ["address"] (defScope sAof) := ⟨rfl, rfl, rfl, by decide +kernel, rfl, by decide +kernel, by decide +kernel⟩
theorem ok_aof {f f1 : Addr} {fd fd1 : FuncData} (F : Fun K "addresses_of" "addresses_of" sAof f fd) (mD : mg "addresses_of" = some (.ref f)) (kD : PySem.W.keepIn K (.ref f) = true) (bD : Binds K fd ["address"] []) (M : CallOf P w K mg base 3 "inner" ["address"] (spInner C) f1 fd1) :
    ∀ n, FnOk P w K mg base CX0 (n + 3) f fd ["address"] (spAof C n) := by
  intro n
  induction n with
  | zero =>
    refine F.ok scAf (fun vs H Q E h => ?_) (fun cdv A outer s H vs Q E hr h => ?_)
    · obtain ⟨a, v, rfl, _⟩ := h
      rfl
    · obtain ⟨a, v, rfl, _, _, ia, d, _⟩ := h
      have := LA.A.dep_pos ia
      omega
  | succ n ih =>
    refine F.ok scAf (fun vs H Q E h => ?_) (fun cdv A outer s H vs Q E hr h => ?_)
    · obtain ⟨a, v, rfl, _⟩ := h
      rfl
    · obtain ⟨t, v, rfl, ht, wf, ia, hd, few, q⟩ := h
      have hr3 : Room 3 _ := hr.mono (by omega)
      refine ⟨_, pss_one (by exact (ps_ret (pe_op op_cat (pe_lst (pa_cons (pv 0) pa_nil)) (pe_lc2 (own := [("each", 1), ("found", 2)]) (vs1 := [2]) (g := gName 1) (tt := tYes) (g1 := gName 2) (tt1 := tYes) (wi1 := iList K (tCall (spAof C n) [] (fun _ _ _ => False) (tCons (tVar 1) tNil))) (te := tVar 2) rfl scAf.nd (pi_list (pe_call M.ok hr3 rfl M.m M.k M.b .nil pass0 (pa_cons (pv 0) pa_nil)))
          (blkOk_by (N := ["address", "each", "found"]) (sc := defScope sAof) (by decide +kernel)) (by decide)
          (fun _ _ _ _ _ => by exact (pg_name (i := 1) scAf.nd rfl (Or.inl rfl)))
          (fun _ _ _ _ _ => by exact pts_nil)
          (fun _ _ _ _ _ => by exact (pi_list (pe_call ih hr rfl mD kD bD .nil pass0 (pa_cons (pv 1) pa_nil))))
          (fun _ _ _ _ _ => by exact (pg_name (i := 2) scAf.nd rfl (Or.inl rfl)))
          (fun _ _ _ _ _ => by exact pts_nil)
          (fun _ _ _ _ _ => by exact (pv 2)))))), ?_⟩
      have alle := LA.A.all_eq wf
      refine ⟨_, rfl, (by show 1 ≤ sizeLine; decide), fun L0 nL0 => ⟨_, rfl, t, v, rfl, ht.same (same_upd nL0), fun p us H1 hp np kids s1 => ?_⟩⟩
      have s0 := same_upd (o := .lst [v]) nL0
      have hL0 := s1 _ _ (upd_same (H := H) (a := L0) (o := .lst [v]))
      have s01 := s0.trans s1
      refine ⟨p, rfl, ⟨us, SqL.of hp⟩, fun D nD => ?_⟩
      have nDp : p ≠ D := ne_of_none hp nD
      refine walk_in (walk_list (K := K) (a := p) (xs := us)) (fun i X => ∃ acc, X D = some (.lst acc) ∧ Paired (fun g u => AA C X g u) ((t.inner.take i).flatMap LA.A.all) acc ∧ Same H1 X) ⟨[], upd_same, .nil, same_upd nD⟩ (fun i X _ ⟨_, _, _, p2⟩ => SqL.of (p2 _ _ hp)) (fun i x X X' hi p2 yl => ?_) (fun X p2 => ?_)
      · obtain ⟨acc, pD, pl, pS⟩ := p2
        obtain ⟨rfl, hx⟩ := yl
        obtain ⟨k, hk, tk⟩ := paired_getA kids hx
        refine ⟨rfl, ?_⟩
        dsimp only [tYes]
        rw [if_pos rfl]
        have km := List.mem_of_getElem? hk
        have kd := t.inner_dep k km
        obtain ⟨kw, ki⟩ := LA.A.inner_wf wf k km
        have kl := flat_le km
        have tot : t.all.length = 1 + (t.inner.flatMap LA.A.all).length := by
          rw [alle, List.length_cons]
          omega
        refine ⟨_, rfl, k, _, rfl, tk.same pS, kw, ki, by omega, by omega, fun L xs X2 hL nL lx s2 => ⟨L, rfl, ⟨xs, SqL.of hL⟩, ?_⟩⟩
        have nLD : L ≠ D := fun z => by rw [z, pD] at nL; cases nL
        refine walk_in (walk_list (K := K) (a := L) (xs := xs)) (fun j Z => Z D = some (.lst (acc ++ xs.take j)) ∧ (∀ b o, X2 b = some o → b ≠ D → Z b = some o)) ⟨by rw [List.take_zero, List.append_nil]; exact s2 _ _ pD, fun _ _ e _ => e⟩ (fun j Z _ z => SqL.of (z.2 _ _ hL nLD)) (fun j y Z Z' hj p3 yl2 => ?_) (fun Z p3 => ?_)
        · obtain ⟨qD, qS⟩ := p3
          obtain ⟨rfl, hy⟩ := yl2
          refine ⟨rfl, ?_⟩
          dsimp only [tYes]
          rw [if_pos rfl]
          have bound := flat_take_le t.inner i
          have la := paired_lenA pl
          have lx2 := paired_lenA lx
          refine ⟨_, rfl, acc ++ xs.take j, qD, Nat.lt_of_le_of_lt (show (acc ++ xs.take j).length ≤ 2000 by rw [List.length_append, List.length_take]; omega) (by decide), ?_, fun b o e nb => ?_⟩
          · rw [List.take_succ, hy, ← List.append_assoc]
            exact upd_same
          · rw [upd_ne nb]
            exact qS b o e nb
        · obtain ⟨qD, qS⟩ := p3
          have sI : ∀ a u, AA C X2 a u → AA C Z a u := fun a u z => z.keep fun b D2 dx fs e => qS _ _ e (ne_of e (s2 _ _ pD) (by intro z; cases z))
          refine ⟨acc ++ xs, by rw [List.take_length] at qD; exact qD, ?_, fun b o e => qS b o (s2 _ _ (pS b o e)) (ne_of_none e nD)⟩
          rw [flat_take hk]
          exact pair_app (Paired.mapP pl fun a u z => sI _ _ (z.same s2)) (Paired.mapP lx sI)
      · obtain ⟨acc, pD, pl, pS⟩ := p2
        have e : t.inner.take us.length = t.inner := List.take_of_length_le (by rw [paired_lenA kids]; exact Nat.le_refl _)
        rw [e] at pl
        have la := paired_lenA pl
        have tot : t.all.length = 1 + (t.inner.flatMap LA.A.all).length := by
          rw [alle, List.length_cons]
          omega
        refine ⟨L0, D, [v], acc, rfl, rfl, pS _ _ hL0, pD, (by show ([v] : List V).length + acc.length ≤ sizeLine; exact Nat.le_trans (show 1 + acc.length ≤ 2000 by omega) (by decide)), fun M nM => ?_⟩
        have sM := same_upd (o := .lst ([v] ++ acc)) nM
        have sA := (s01.trans pS).trans sM
        refine q M ([v] ++ acc) _ upd_same (fresh_back (s01.trans pS) nM) ?_ sA
        rw [alle]
        exact .cons (ht.same sA) (paired_sameA sM pl)
/-- ranges_of: those of it that are Ranges, in a new list -/
def spRof (C : Nat → Addr) : Sp := fun vs H Q _ => ∃ (a : A) (v : V), vs = [v] ∧ AA C H a v ∧ a.wf ∧ a.isA = true ∧ a.dep ≤ 8 ∧ a.all.length ≤ 1000 ∧ ∀ (p : Addr) (us : List V) (H' : Hp), H' p = some (.lst us) → H p = none → us.isEmpty = !(a.all.any fun k => decide (k.cls = 16)) → Same H H' → Q (.ref p) H'
theorem scRf : FnScope ["address", "each"] ["address"] (defScope sRof) := ⟨rfl, rfl, rfl, by decide +kernel, rfl, by decide +kernel, by decide +kernel⟩
theorem ok_rof {f f1 : Addr} {fd fd1 : FuncData} (F : Fun K "ranges_of" "ranges_of" sRof f fd) (N : NamA mg C CA) (k : KA K C CA) (M : CallOf P w K mg base 11 "addresses_of" ["address"] (spAof C 8) f1 fd1) : FnOk P w K mg base CX0 12 f fd ["address"] (spRof C) := by
  refine F.ok scRf (fun vs H Q E h => ?_) (fun cdv A outer s H vs Q E hr h => ?_)
  · obtain ⟨a, v, rfl, _⟩ := h
    rfl
  · obtain ⟨t, v, rfl, ht, wf, ia, d8, few, q⟩ := h
    refine ⟨_, pss_one (by exact (ps_ret (pe_lc (own := [("each", 1)]) (g := gName 1) (tt := tB (fun σ H Q => ∃ a x, σ[1]? = some (some x) ∧ AA C H a x ∧ Q (.bl (decide (a.cls = 16))) H)) (te := tVar 1) rfl scRf.nd
          (pi_list (pe_call M.ok hr rfl M.m M.k M.b .nil pass0 (pa_cons (pv 0) pa_nil)))
          (blkOk_by (N := ["address", "each"]) (sc := defScope sRof) (by decide +kernel))
          (fun _ _ _ _ _ => by exact (pg_name (i := 1) scRf.nd rfl (Or.inl rfl)))
          (fun _ _ _ _ _ => by exact (pts_one (pt_val (PE.of (pe_callB call_isi (by rfl) N.isM (by decide +kernel) (pa_cons (pv 1) (pa_cons (pe_glob (v := .ref (C 16)) rfl N.range rfl) pa_nil))) fun σ H Q ⟨a, x, hx, ha, q⟩ => by
            have u18 := ha.at_.1.2
            exact ⟨_, hx, _, _, _, _, _, rfl, .own (C 16), ha.ty k, k.kit _ _ u18 (by decide), q⟩))))
          (fun _ _ _ _ _ => by exact (pv 1))))), ?_⟩
    refine ⟨_, rfl, t, v, rfl, ht, wf, ia, d8, few, fun L us H1 hL nL pr s1 => ⟨L, rfl, ⟨us, SqL.of hL⟩, fun D nD => ?_⟩⟩
    refine lc_it (walk_list (xs := us)) (fun i X => (∃ acc, X D = some (.lst acc) ∧ acc.length ≤ i ∧ acc.isEmpty = !((t.all.take i).any fun k => decide (k.cls = 16))) ∧ Same H1 X) ⟨⟨[], upd_same, Nat.le_refl _, rfl⟩, same_upd nD⟩ (fun i X _ p2 => SqL.of (p2.2 _ _ hL)) (fun i x X X' hi p2 yl => ?_) (fun X p2 => ?_)
    · obtain ⟨⟨acc, pD, pl, pe⟩, pS⟩ := p2
      obtain ⟨rfl, hx⟩ := yl
      obtain ⟨kk, hk, tk⟩ := paired_getA pr hx
      refine ⟨rfl, ?_⟩
      refine ⟨kk, x, rfl, tk.same pS, _, rfl, ?_⟩
      have nx : ((t.all.take (i + 1)).any fun k => decide (k.cls = 16)) = (((t.all.take i).any fun k => decide (k.cls = 16)) || decide (kk.cls = 16)) := by
        rw [List.take_succ, hk, List.any_append]
        simp
      have lu := paired_lenA pr
      have ii : i < us.length := hi
      cases ek : decide (kk.cls = 16) with
      | true =>
        show (if true = true then _ else _)
        rw [if_pos rfl]
        refine ⟨_, rfl, acc, pD, Nat.lt_of_le_of_lt (show acc.length ≤ 1000 by omega) (by decide), ⟨acc ++ [x], upd_same, by rw [List.length_append]; exact Nat.add_le_add pl (Nat.le_refl 1), ?_⟩, fun b u e => ?_⟩
        · rw [nx, ek, Bool.or_true]
          cases acc <;> rfl
        · rw [upd_ne (ne_of_none e nD)]
          exact pS _ _ e
      | false =>
        show (if false = true then _ else _)
        rw [if_neg Bool.false_ne_true]
        exact ⟨⟨acc, pD, by omega, by rw [nx, ek, Bool.or_false]; exact pe⟩, pS⟩
    · obtain ⟨⟨acc, pD, pl, pe⟩, pS⟩ := p2
      rw [← paired_lenA pr, List.take_length] at pe
      exact q D acc X pD (fresh_back s1 nD) pe (s1.trans pS)
end
end LA
end
section
set_option Elab.async false
set_option linter.all false
set_option maxRecDepth 100000
set_option maxHeartbeats 4100000
namespace B0X
open PySem PySem.Spec PyProof.Rows L2
/-! ### C() where the class has no __init__ of its own -/
structure Bare (K : PySem.W.Frag) (C : Addr) : Prop where
  makes : PySem.W.makesIn K C = true
  init : PySem.W.findIn K (.ref C) "__init__" = some (some (.builtin "object.__init__"))
  kp : PySem.W.keepIn K (.ref C) = true
def tBare (C : Addr) : TE := fun _ H Q => ∀ x dx, H x = none → H dx = none → dx ≠ x → Q (.ref x) (upd (upd H dx (.own x)) x (.ins C dx []))
section
variable {X : Cx} {x : Str} {C : Addr} {p pos : Pos}
theorem pe_bare (M : Bare X.K C) (hg : Gl X x) (hm : X.mg x = some (.ref C)) (hdb : (x == ("__debug__" : Str)) = false := by decide) : PE X (.Call (.Name x p) [] [] pos) (tBare C) := by
  refine ⟨fun pins s σ H Q I h => ?_⟩
  refine wpAny_Call_Name_kw (ld_glob I hg hm ?_ hdb)
  refine PySem.W.callWith_K0 I.kIn M.kp ?_
  have hq := h (s.heap.objs.size + 1) s.heap.objs.size (I.hok.fresh (Nat.le_succ _)) (I.hok.fresh (Nat.le_refl _)) (Nat.ne_of_lt (Nat.lt_succ_self _))
  have I2 := Inv.made (C := C) I
  refine wpAny_call (make_map0 I.kIn M.makes M.init (fun self => PySem.W.Looks.of_pure (PySem.W.oi_bind self)) ?_)
  have Y := PySem.W.makes_of (M := model X.prog X.w) I.kIn M.makes
  have ho : ((s.heap.push PySem.W.emptyDict).push (PySem.W.instObj C s.heap.objs.size)).get? (s.heap.objs.size + 1) = some (PySem.W.instObj C s.heap.objs.size) := by
    have e := Heap.get?_push_size (s.heap.push PySem.W.emptyDict) (o := PySem.W.instObj C s.heap.objs.size) rfl
    rwa [Heap.size_push] at e
  have t1 : PySem.W.Looks (model X.prog X.w) ((s.heap.push PySem.W.emptyDict).push (PySem.W.instObj C s.heap.objs.size)) (typeOf (.ref (s.heap.objs.size + 1))) (.ref C) := (PySem.W.Looks.ld ho).andThen .now
  have t2 : PySem.W.Looks (model X.prog X.w) ((s.heap.push PySem.W.emptyDict).push (PySem.W.instObj C s.heap.objs.size)) (isInstance (.ref (s.heap.objs.size + 1)) (.type "object")) true := t1.andThen (Y.top.keeps fun b o e => Heap.get?_push_of_some _ (Heap.get?_push_of_some _ e))
  refine codeAny_call_builtin PySem.W.oi_plain PySem.W.entry_oi (@PySem.W.check_slot (model X.prog X.w) _ _ _ "object.__init__" "object" "__init__" (.ref (s.heap.objs.size + 1)) [] [] _ PySem.W.oi_kind PySem.W.oi_split t2 (PySem.W.oi_args (.ref (s.heap.objs.size + 1))) ?_)
  rw [PySem.W.oi_run]
  exact wpAny_pure (And.intro rfl ⟨.ref (s.heap.objs.size + 1), _, I2, rfl, hq⟩)
end
end B0X
end
section
set_option Elab.async false
set_option linter.all false
set_option maxRecDepth 100000
set_option maxHeartbeats 4100000
namespace LA
open PySem L2 XS XT XK XL LamX XO DnX B0X
abbrev sXA : Stmt := cb 2 0
abbrev sCC : Stmt := top 59
theorem scXA : FnScope ["self", "argument"] ["self", "argument"] (defScope sXA) := ⟨rfl, rfl, rfl, by decide +kernel, rfl, by decide +kernel, by decide +kernel⟩
section
variable {P : Program} {w : World} {K : PySem.W.Frag} {mg : Str → Option Value} {base : Heap} {C : Nat → Addr} {CA : Addr}
theorem ok_XA {f : Addr} {fd : FuncData} (F : Fun K "__init__" "InvalidAddress.__init__" sXA f fd) : FnOk P w K mg base CX0 1 f fd ["self", "argument"] (spXI (K := K)) := by
  refine F.ok scXA (fun vs H Q E h => ?_) (fun cdv A outer s H vs Q E hr h => ?_)
  · obtain ⟨a, C, v, rfl, _⟩ := h
    rfl
  · obtain ⟨a, C, v, rfl, T, no, ea, q⟩ := h
    refine ⟨_, pss_one (by exact (ps_ost (pv 0) (pv 1))), ?_⟩
    exact ⟨_, rfl, _, rfl, a, C, rfl, T, no, .inl ⟨ea, fun dx n ne => q dx n ne⟩⟩
/-- InvalidAddress, as the raising defs see it -/
structure ErrAd (P : Program) (w : World) (K : PySem.W.Frag) (mg : Str → Option Value) (base : Heap) (D fI : Addr) (fd : FuncData) : Prop where
  T : OexC K D
  no : PySem.W.findIn K (.ref D) "argument" = some none
  i : PySem.W.findIn K (.ref D) "__init__" = some (some (.ref fI))
  ty : PySem.W.typeIn K (.ref fI) = some (.type "function")
  ok : FnOk P w K mg base CX0 1 fI fd ["self", "argument"] (spXI (K := K))
  b : Binds K fd ["self", "argument"] []
  m : mg "InvalidAddress" = some (.ref D)
/-- check_counting -/
def spCC (D : Addr) : Sp := fun vs H Q E => ∃ (N : Addr → Prop) (x : V) (d : PyData) (arg : Str), vs = [x, .str arg] ∧ Dz N H x d ∧ (cntD d = true → ∀ H', Same H H' → Q .non H') ∧ (cntD d = false → Refuses D H E arg)
theorem scCC : FnScope ["value", "argument"] ["value", "argument"] (defScope sCC) := ⟨rfl, rfl, rfl, by decide +kernel, rfl, by decide +kernel, by decide +kernel⟩
theorem ok_cc {f f1 D fI : Addr} {fd fd1 fdI : FuncData} (F : Fun K "check_counting" "check_counting" sCC f fd) (X : ErrAd P w K mg base D fI fdI) (M : CallOf P w K mg base 2 "is_counting" ["value"] (spQ cntD) f1 fd1) : FnOk P w K mg base (L2.CX P w) 4 f fd ["value", "argument"] (spCC D) := by
  refine F.okX scCC (fun vs H Q E h => ?_) (fun cdv A outer s H vs Q E hr h => ?_)
  · obtain ⟨N, x, d, arg, rfl, _⟩ := h
    rfl
  · obtain ⟨N, x, d, arg, rfl, hx, q1, q2⟩ := h
    have hr2 : Room 2 _ := hr.mono (by decide)
    refine ⟨_, pss_one (by exact (ps_if (pt_not (pt_val (pe_call M.ok hr2 rfl M.m M.k M.b .nil pass0 (pa_cons (pv 0) pa_nil)))) (pss_one (ps_raise rfl (takes_of rfl rfl rfl rfl) (pmk_oex X.T X.i X.ty X.ok hr2 X.b .nil pass0 rfl X.m (pa_cons (pv 1) pa_nil)))) pss_nil)), ?_⟩
    refine ⟨_, rfl, N, x, d, rfl, hx, fun H' sm => ⟨_, rfl, ?_⟩⟩
    cases e : cntD d with
    | true => exact iteF (q1 e H' sm)
    | false => exact iteT ⟨_, rfl, rd_raise X.T X.no ((q2 e).later sm)⟩
theorem cnt_int {N : Addr → Prop} {H : Hp} {x : V} {d : PyData} (h : Dz N H x d) (e : cntD d = true) : ∃ k : Int, x = .int k ∧ d = .int k ∧ 1 ≤ k := by
  cases h with
  | int k => exact ⟨k, rfl, rfl, of_decide_eq_true e⟩
  | _ => cases e
/-- the making of a Number or a Count -/
def spINum (B D : Addr) : Sp := fun vs H Q E => ∃ (a dx : Addr) (N : Addr → Prop) (x : V) (d : PyData), vs = [.ref a, x] ∧ H a = some (.ins B dx []) ∧ Dz N H x d ∧ (cntD d = true → ∀ H', H' a = some (.ins B dx [("_number", x)]) → But a H H' → Q .non H') ∧ (cntD d = false → Refuses D H E "number")
abbrev sINumber : Stmt := cb 42 0
theorem scINumber : FnScope ["self", "number"] ["self", "number"] (defScope sINumber) := ⟨rfl, rfl, rfl, by decide +kernel, rfl, by decide +kernel, by decide +kernel⟩
theorem ok_INumber {f f1 B D : Addr} {fd fd1 : FuncData} (F : Fun K "__init__" "Number.__init__" sINumber f fd) (T : C1 K B "_number") (M : CallX P w K mg base 4 "check_counting" ["value", "argument"] (spCC D) f1 fd1) : FnOk P w K mg base (L2.CX P w) 5 f fd ["self", "number"] (spINum B D) := by
  refine F.okX scINumber (fun vs H Q E h => ?_) (fun cdv A outer s H vs Q E hr h => ?_)
  · obtain ⟨a, dx, N, x, d, rfl, _⟩ := h
    rfl
  · obtain ⟨a, dx, N, x, d, rfl, ha, hx, q1, q2⟩ := h
    refine ⟨_, pss_cons (by exact (ps_expr (pe_call M.ok hr rfl M.m M.k M.b .nil (passes_call (takes_of rfl rfl rfl rfl) (fun _ _ _ _ h => h)) (pa_cons (pv 1) (pa_cons pe_str pa_nil))))) (pss_one (by exact (ps_fld (pv 0) (pv 1) rfl))), ?_⟩
    exact ⟨_, rfl, N, x, d, "number", rfl, hx, fun e H' sm => ⟨_, rfl, _, rfl, a, B, dx, [], rfl, sm _ _ ha, T.cls, T.no, by decide, q1 e _ upd_same (But.same_put sm)⟩, q2⟩
abbrev sICount : Stmt := cb 50 0
theorem scICount : FnScope ["self", "number"] ["self", "number"] (defScope sICount) := ⟨rfl, rfl, rfl, by decide +kernel, rfl, by decide +kernel, by decide +kernel⟩
theorem ok_ICount {f f1 B D : Addr} {fd fd1 : FuncData} (F : Fun K "__init__" "Count.__init__" sICount f fd) (T : C1 K B "_number") (M : CallX P w K mg base 4 "check_counting" ["value", "argument"] (spCC D) f1 fd1) : FnOk P w K mg base (L2.CX P w) 5 f fd ["self", "number"] (spINum B D) := by
  refine F.okX scICount (fun vs H Q E h => ?_) (fun cdv A outer s H vs Q E hr h => ?_)
  · obtain ⟨a, dx, N, x, d, rfl, _⟩ := h
    rfl
  · obtain ⟨a, dx, N, x, d, rfl, ha, hx, q1, q2⟩ := h
    refine ⟨_, pss_cons (by exact (ps_expr (pe_call M.ok hr rfl M.m M.k M.b .nil (passes_call (takes_of rfl rfl rfl rfl) (fun _ _ _ _ h => h)) (pa_cons (pv 1) (pa_cons pe_str pa_nil))))) (pss_one (by exact (ps_fld (pv 0) (pv 1) rfl))), ?_⟩
    exact ⟨_, rfl, N, x, d, "number", rfl, hx, fun e H' sm => ⟨_, rfl, _, rfl, a, B, dx, [], rfl, sm _ _ ha, T.cls, T.no, by decide, q1 e _ upd_same (But.same_put sm)⟩, q2⟩
/-- the making of an Each -/
def spIEach (B D : Addr) : Sp := fun vs H Q E => ∃ (a dx : Addr) (N M : Addr → Prop) (x y : V) (d e : PyData), vs = [.ref a, x, y] ∧ H a = some (.ins B dx []) ∧ Dz N H x d ∧ Dz M H y e ∧
  (cntD d = true → cntD e = true → ∀ H', H' a = some (.ins B dx [("_step", x), ("_start", y)]) → But a H H' → Q .non H') ∧ (cntD d = false → Refuses D H E "step") ∧ (cntD d = true → cntD e = false → Refuses D H E "start")
abbrev sIEach : Stmt := cb 43 0
theorem scIEach : FnScope ["self", "step", "start"] ["self", "step", "start"] (defScope sIEach) := ⟨rfl, rfl, rfl, by decide +kernel, rfl, by decide +kernel, by decide +kernel⟩
theorem ok_IEach {f f1 B D : Addr} {fd fd1 : FuncData} (F : Fun K "__init__" "Each.__init__" sIEach f fd) (c : Cls K B) (n1 : NoAttr K B "_step") (n2 : NoAttr K B "_start") (M : CallX P w K mg base 4 "check_counting" ["value", "argument"] (spCC D) f1 fd1) : FnOk P w K mg base (L2.CX P w) 5 f fd ["self", "step", "start"] (spIEach B D) := by
  refine F.okX scIEach (fun vs H Q E h => ?_) (fun cdv A outer s H vs Q E hr h => ?_)
  · obtain ⟨a, dx, N, M, x, y, d, e, rfl, _⟩ := h
    rfl
  · obtain ⟨a, dx, N, N2, x, y, d, e, rfl, ha, hx, hy, q1, q2, q3⟩ := h
    refine ⟨_, pss_cons (by exact (ps_expr (pe_call M.ok hr rfl M.m M.k M.b .nil (passes_call (takes_of rfl rfl rfl rfl) (fun _ _ _ _ h => h)) (pa_cons (pv 1) (pa_cons pe_str pa_nil)))))
      (pss_cons (by exact (ps_expr (pe_call M.ok hr rfl M.m M.k M.b .nil (passes_call (takes_of rfl rfl rfl rfl) (fun _ _ _ _ h => h)) (pa_cons (pv 2) (pa_cons pe_str pa_nil)))))
      (pss_cons (by exact (ps_fld (pv 0) (pv 1) rfl)) (pss_one (by exact (ps_fld (pv 0) (pv 2) rfl))))), ?_⟩
    refine ⟨_, rfl, N, x, d, "step", rfl, hx, fun ed H' sm => ⟨_, rfl, N2, y, e, "start", rfl, hy.same sm, fun ee H2 s2 => ⟨_, rfl, _, rfl, a, B, dx, [], rfl, s2 _ _ (sm _ _ ha), c, n1, by decide, ?_⟩, fun ee => (q3 ed ee).later sm⟩, q2⟩
    refine ⟨_, rfl, _, rfl, a, B, dx, _, rfl, upd_same, c, n2, (by show 1 < 1000; decide), ?_⟩
    rw [upd_upd]
    exact q1 ed ee _ upd_same (But.same_put (sm.trans s2))
/-- any value, test or address, asked for a test -/
def TstV (C : Nat → Addr) (H : Hp) (x : V) (r : Bool) : Prop := ((AnyV H x ∧ r = false) ∨ ∃ g, TA C H g x ∧ r = true) ∨ ∃ a, AA C H a x ∧ r = false
theorem TstV.same {C : Nat → Addr} {H H' : Hp} {x : V} {r : Bool} (s : Same H H') (h : TstV C H x r) : TstV C H' x r := by
  rcases h with (⟨a, e⟩ | ⟨a, b, e⟩) | ⟨a, b, e⟩
  · exact .inl (.inl ⟨a.same s, e⟩)
  · exact .inl (.inr ⟨a, b.same s, e⟩)
  · exact .inr ⟨a, b.same s, e⟩
def spIsT2 (C : Nat → Addr) : Sp := fun vs H Q _ => ∃ (x : V) (r : Bool), vs = [x] ∧ TstV C H x r ∧ ∀ H', Same H H' → Q (.bl r) H'
theorem kit_no {K : PySem.W.Frag} {C : Nat → Addr} {CA : Addr} (k : KA K C CA) {i : Nat} (h8 : 8 ≤ i) (hi : i < 18) : ∀ l : List Nat, (∀ j ∈ l, j < 8) → PySem.W.kitAny K (.ref (C i)) (l.map fun j => Value.ref (C j)) = some false
  | [], _ => rfl
  | j :: r, hl => by
    have z := k.kit i j hi (by have := hl j (by simp); omega)
    rw [decide_eq_false (show ¬ i = j by have := hl j (by simp); omega)] at z
    exact kitAny_cons z (fun _ => kit_no k h8 hi r fun x hx => hl x (List.mem_cons_of_mem _ hx)) fun e => nomatch e
theorem ok_isT2 {f : Addr} {fd : FuncData} (F : Fun K "is_test" "is_test" sIsT f fd) (N : NamT mg C) (k : KA K C CA) : FnOk P w K mg base CX0 1 f fd ["value"] (spIsT2 C) := by
  refine F.ok scIt (fun vs H Q E h => ?_) (fun cdv A outer s H vs Q E hr h => ?_)
  · obtain ⟨x, r, rfl, _⟩ := h
    rfl
  · obtain ⟨x, r, rfl, hx, q⟩ := h
    have k0 := k.kc
    refine ⟨_, pss_one (by exact (ps_ret (pe_callB call_isiT (by rfl) N.isM (by decide +kernel) (pa_cons (pv 0) (pa_cons (pe_tup (pa_cons (pe_glob (v := .ref (C 0)) rfl N.n0 rfl) (pa_cons (pe_glob (v := .ref (C 1)) rfl N.n1 rfl) (pa_cons (pe_glob (v := .ref (C 2)) rfl N.n2 rfl) (pa_cons (pe_glob (v := .ref (C 3)) rfl N.n3 rfl)
      (pa_cons (pe_glob (v := .ref (C 4)) rfl N.n4 rfl) (pa_cons (pe_glob (v := .ref (C 5)) rfl N.n5 rfl) (pa_cons (pe_glob (v := .ref (C 6)) rfl N.n6 rfl) (pa_cons (pe_glob (v := .ref (C 7)) rfl N.n7 rfl) pa_nil))))))))) pa_nil))))), ?_⟩
    refine ⟨_, rfl, (by show 8 ≤ sizeLine; decide), fun T nT => ?_⟩
    have sm := same_upd (o := .tup [.ref (C 0), .ref (C 1), .ref (C 2), .ref (C 3), .ref (C 4), .ref (C 5), .ref (C 6), .ref (C 7)]) nT
    rcases hx with (⟨a, rfl⟩ | ⟨g, hg, rfl⟩) | ⟨a, ha, rfl⟩
    · obtain ⟨n, hn, ty⟩ := (a.same sm).cls (K := K)
      exact ⟨_, T, _, _, _, false, rfl, upd_same, .cons (.own _) (.cons (.own _) (.cons (.own _) (.cons (.own _) (.cons (.own _) (.cons (.own _) (.cons (.own _) (.cons (.own _) .nil))))))), ty, kit_out k0 hn [0, 1, 2, 3, 4, 5, 6, 7] (by decide), q _ sm⟩
    · have lt := hg.at_.1
      have kk := kit_in k0 lt [0, 1, 2, 3, 4, 5, 6, 7] (by decide) (by
        have : ∀ i, i < 8 → i ∈ [0, 1, 2, 3, 4, 5, 6, 7] := by decide
        exact this _ lt)
      exact ⟨_, T, _, _, _, true, rfl, upd_same, .cons (.own _) (.cons (.own _) (.cons (.own _) (.cons (.own _) (.cons (.own _) (.cons (.own _) (.cons (.own _) (.cons (.own _) .nil))))))), (hg.same sm).ty k0, kk, q _ sm⟩
    · have lt := ha.at_.1
      have kk := kit_no k lt.1 lt.2 [0, 1, 2, 3, 4, 5, 6, 7] (by decide)
      exact ⟨_, T, _, _, _, false, rfl, upd_same, .cons (.own _) (.cons (.own _) (.cons (.own _) (.cons (.own _) (.cons (.own _) (.cons (.own _) (.cons (.own _) (.cons (.own _) .nil))))))), (ha.same sm).ty k, kk, q _ sm⟩
/-- the making of an If -/
def spIIf (C : Nat → Addr) (B D : Addr) : Sp := fun vs H Q E => ∃ (a dx : Addr) (x : V) (r : Bool), vs = [.ref a, x] ∧ H a = some (.ins B dx []) ∧ TstV C H x r ∧ (r = true → ∀ H', H' a = some (.ins B dx [("_test", x)]) → But a H H' → Q .non H') ∧ (r = false → Refuses D H E "test")
abbrev sIIf : Stmt := cb 45 0
theorem scIIf : FnScope ["self", "test"] ["self", "test"] (defScope sIIf) := ⟨rfl, rfl, rfl, by decide +kernel, rfl, by decide +kernel, by decide +kernel⟩
theorem ok_IIf {f f1 B D fI : Addr} {fd fd1 fdI : FuncData} (F : Fun K "__init__" "If.__init__" sIIf f fd) (T : C1 K B "_test") (X : ErrAd P w K mg base D fI fdI) (M : CallOf P w K mg base 1 "is_test" ["value"] (spIsT2 C) f1 fd1) : FnOk P w K mg base (L2.CX P w) 4 f fd ["self", "test"] (spIIf C B D) := by
  refine F.okX scIIf (fun vs H Q E h => ?_) (fun cdv A outer s H vs Q E hr h => ?_)
  · obtain ⟨a, dx, x, r, rfl, _⟩ := h
    rfl
  · obtain ⟨a, dx, x, r, rfl, ha, hx, q1, q2⟩ := h
    have hr1 : Room 1 _ := hr.mono (by decide)
    have hr2 : Room 2 _ := hr.mono (by decide)
    refine ⟨_, pss_cons (by exact (ps_if (pt_not (pt_val (pe_call M.ok hr1 rfl M.m M.k M.b .nil pass0 (pa_cons (pv 1) pa_nil)))) (pss_one (ps_raise rfl (takes_of rfl rfl rfl rfl) (pmk_oex X.T X.i X.ty X.ok hr2 X.b .nil pass0 rfl X.m (pa_cons pe_str pa_nil)))) pss_nil)) (pss_one (by exact (ps_fld (pv 0) (pv 1) rfl))), ?_⟩
    refine ⟨_, rfl, x, r, rfl, hx, fun H1 s1 => ⟨_, rfl, ?_⟩⟩
    cases r with
    | false => exact iteT (rd_raise X.T X.no ((q2 rfl).later s1))
    | true => exact iteF ⟨_, rfl, _, rfl, a, B, dx, [], rfl, s1 _ _ ha, T.cls, T.no, by decide, q1 rfl _ upd_same (But.same_put s1)⟩
/-- the making of a Kept: of a test, or of None -/
def spIKept (C : Nat → Addr) (B D : Addr) : Sp := fun vs H Q E => ∃ (a dx : Addr) (x : V) (r : Bool), vs = [.ref a, x] ∧ H a = some (.ins B dx []) ∧ ((x = .non ∧ r = true) ∨ (x ≠ .non ∧ TstV C H x r)) ∧ (r = true → ∀ H', H' a = some (.ins B dx [("_test", x)]) → But a H H' → Q .non H') ∧ (r = false → Refuses D H E "test")
abbrev sIKept : Stmt := cb 47 0
theorem scIKept : FnScope ["self", "test"] ["self", "test"] (defScope sIKept) := ⟨rfl, rfl, rfl, by decide +kernel, rfl, by decide +kernel, by decide +kernel⟩
theorem ok_IKept {f f1 B D fI : Addr} {fd fd1 fdI : FuncData} (F : FunD K "__init__" "Kept.__init__" (defArgs sIKept) (defBody sIKept) (defScope sIKept) [.non] [] f fd) (T : C1 K B "_test") (X : ErrAd P w K mg base D fI fdI) (M : CallOf P w K mg base 1 "is_test" ["value"] (spIsT2 C) f1 fd1) : FnOk P w K mg base (L2.CX P w) 4 f fd ["self", "test"] (spIKept C B D) := by
  refine F.ok scIKept (fun vs H Q E h => ?_) (fun cdv A outer s H vs Q E hr h => ?_)
  · obtain ⟨a, dx, x, r, rfl, _⟩ := h
    rfl
  · obtain ⟨a, dx, x, r, rfl, ha, hx, q1, q2⟩ := h
    have hr1 : Room 1 _ := hr.mono (by decide)
    have hr2 : Room 2 _ := hr.mono (by decide)
    refine ⟨_, pss_cons (by exact (ps_if (PW.pt (pw_and (pt_cmp (pc_notN (pv 1))) (pw_and1 (pt_not (pt_val (pe_call M.ok hr1 rfl M.m M.k M.b .nil pass0 (pa_cons (pv 1) pa_nil))))))) (pss_one (ps_raise rfl (takes_of rfl rfl rfl rfl) (pmk_oex X.T X.i X.ty X.ok hr2 X.b .nil pass0 rfl X.m (pa_cons pe_str pa_nil)))) pss_nil)) (pss_one (by exact (ps_fld (pv 0) (pv 1) rfl))), ?_⟩
    refine ⟨_, rfl, _, rfl, ?_⟩
    rcases hx with ⟨rfl, rfl⟩ | ⟨nn, hx⟩
    · rw [decide_eq_true rfl]
      exact iteF (iteF ⟨_, rfl, _, rfl, a, B, dx, [], rfl, ha, T.cls, T.no, by decide, q1 rfl _ upd_same (But.same_put fun _ _ z => z)⟩)
    · rw [decide_eq_false nn]
      refine iteT ⟨_, rfl, x, r, rfl, hx, fun H1 s1 => ⟨_, rfl, ?_⟩⟩
      cases r with
      | false => exact iteT (rd_raise X.T X.no ((q2 rfl).later s1))
      | true => exact iteF ⟨_, rfl, _, rfl, a, B, dx, [], rfl, s1 _ _ ha, T.cls, T.no, by decide, q1 rfl _ upd_same (But.same_put s1)⟩
end
end LA
end
section
set_option Elab.async false
set_option linter.all false
set_option maxRecDepth 100000
set_option maxHeartbeats 4100000
namespace LA
open PySem L2 XS XT XK XL LamX XO DnX B0X
section
variable {P : Program} {w : World} {K : PySem.W.Frag} {mg : Str → Option Value} {base : Heap} {C : Nat → Addr} {CA : Addr}
abbrev sPNum : Stmt := cb 42 1
theorem scPNum : FnScope ["self"] ["self"] (defScope sPNum) := ⟨rfl, rfl, rfl, by decide +kernel, rfl, by decide +kernel, by decide +kernel⟩
theorem ok_PNum {f D : Addr} {fd : FuncData} (F : Fun K "number" "Number.number" sPNum f fd) (c : Cls K D) (no : NoAttr K D "_number") : FnOk P w K mg base CX0 1 f fd ["self"] (spGet D "_number") := by
  refine F.ok scPNum (fun vs H Q E h => ?_) (fun cdv A outer s H vs Q E hr h => ?_)
  · obtain ⟨a, dx, fs, v, rfl, _⟩ := h
    rfl
  · obtain ⟨a, dx, fs, v, rfl, ha, lk, q⟩ := h
    refine ⟨_, pss_one (by exact (ps_ret (pe_fld (pv 0) rfl))), ?_⟩
    exact ⟨_, rfl, a, D, dx, fs, v, rfl, ha, c, no, lk, q⟩
abbrev sPStep : Stmt := cb 43 1
theorem scPStep : FnScope ["self"] ["self"] (defScope sPStep) := ⟨rfl, rfl, rfl, by decide +kernel, rfl, by decide +kernel, by decide +kernel⟩
theorem ok_PStep {f D : Addr} {fd : FuncData} (F : Fun K "step" "Each.step" sPStep f fd) (c : Cls K D) (no : NoAttr K D "_step") : FnOk P w K mg base CX0 1 f fd ["self"] (spGet D "_step") := by
  refine F.ok scPStep (fun vs H Q E h => ?_) (fun cdv A outer s H vs Q E hr h => ?_)
  · obtain ⟨a, dx, fs, v, rfl, _⟩ := h
    rfl
  · obtain ⟨a, dx, fs, v, rfl, ha, lk, q⟩ := h
    refine ⟨_, pss_one (by exact (ps_ret (pe_fld (pv 0) rfl))), ?_⟩
    exact ⟨_, rfl, a, D, dx, fs, v, rfl, ha, c, no, lk, q⟩
abbrev sPStartE : Stmt := cb 43 2
theorem scPStartE : FnScope ["self"] ["self"] (defScope sPStartE) := ⟨rfl, rfl, rfl, by decide +kernel, rfl, by decide +kernel, by decide +kernel⟩
theorem ok_PStartE {f D : Addr} {fd : FuncData} (F : Fun K "start" "Each.start" sPStartE f fd) (c : Cls K D) (no : NoAttr K D "_start") : FnOk P w K mg base CX0 1 f fd ["self"] (spGet D "_start") := by
  refine F.ok scPStartE (fun vs H Q E h => ?_) (fun cdv A outer s H vs Q E hr h => ?_)
  · obtain ⟨a, dx, fs, v, rfl, _⟩ := h
    rfl
  · obtain ⟨a, dx, fs, v, rfl, ha, lk, q⟩ := h
    refine ⟨_, pss_one (by exact (ps_ret (pe_fld (pv 0) rfl))), ?_⟩
    exact ⟨_, rfl, a, D, dx, fs, v, rfl, ha, c, no, lk, q⟩
abbrev sPIf : Stmt := cb 45 1
theorem scPIf : FnScope ["self"] ["self"] (defScope sPIf) := ⟨rfl, rfl, rfl, by decide +kernel, rfl, by decide +kernel, by decide +kernel⟩
theorem ok_PIf {f D : Addr} {fd : FuncData} (F : Fun K "test" "If.test" sPIf f fd) (c : Cls K D) (no : NoAttr K D "_test") : FnOk P w K mg base CX0 1 f fd ["self"] (spGet D "_test") := by
  refine F.ok scPIf (fun vs H Q E h => ?_) (fun cdv A outer s H vs Q E hr h => ?_)
  · obtain ⟨a, dx, fs, v, rfl, _⟩ := h
    rfl
  · obtain ⟨a, dx, fs, v, rfl, ha, lk, q⟩ := h
    refine ⟨_, pss_one (by exact (ps_ret (pe_fld (pv 0) rfl))), ?_⟩
    exact ⟨_, rfl, a, D, dx, fs, v, rfl, ha, c, no, lk, q⟩
abbrev sPKept : Stmt := cb 47 1
theorem scPKept : FnScope ["self"] ["self"] (defScope sPKept) := ⟨rfl, rfl, rfl, by decide +kernel, rfl, by decide +kernel, by decide +kernel⟩
theorem ok_PKept {f D : Addr} {fd : FuncData} (F : Fun K "test" "Kept.test" sPKept f fd) (c : Cls K D) (no : NoAttr K D "_test") : FnOk P w K mg base CX0 1 f fd ["self"] (spGet D "_test") := by
  refine F.ok scPKept (fun vs H Q E h => ?_) (fun cdv A outer s H vs Q E hr h => ?_)
  · obtain ⟨a, dx, fs, v, rfl, _⟩ := h
    rfl
  · obtain ⟨a, dx, fs, v, rfl, ha, lk, q⟩ := h
    refine ⟨_, pss_one (by exact (ps_ret (pe_fld (pv 0) rfl))), ?_⟩
    exact ⟨_, rfl, a, D, dx, fs, v, rfl, ha, c, no, lk, q⟩
abbrev sPNot : Stmt := cb 48 1
theorem scPNot : FnScope ["self"] ["self"] (defScope sPNot) := ⟨rfl, rfl, rfl, by decide +kernel, rfl, by decide +kernel, by decide +kernel⟩
theorem ok_PNot {f D : Addr} {fd : FuncData} (F : Fun K "address" "Not.address" sPNot f fd) (c : Cls K D) (no : NoAttr K D "_address") : FnOk P w K mg base CX0 1 f fd ["self"] (spGet D "_address") := by
  refine F.ok scPNot (fun vs H Q E h => ?_) (fun cdv A outer s H vs Q E hr h => ?_)
  · obtain ⟨a, dx, fs, v, rfl, _⟩ := h
    rfl
  · obtain ⟨a, dx, fs, v, rfl, ha, lk, q⟩ := h
    refine ⟨_, pss_one (by exact (ps_ret (pe_fld (pv 0) rfl))), ?_⟩
    exact ⟨_, rfl, a, D, dx, fs, v, rfl, ha, c, no, lk, q⟩
abbrev sPStart : Stmt := cb 49 1
theorem scPStart : FnScope ["self"] ["self"] (defScope sPStart) := ⟨rfl, rfl, rfl, by decide +kernel, rfl, by decide +kernel, by decide +kernel⟩
theorem ok_PStart {f D : Addr} {fd : FuncData} (F : Fun K "start" "Range.start" sPStart f fd) (c : Cls K D) (no : NoAttr K D "_start") : FnOk P w K mg base CX0 1 f fd ["self"] (spGet D "_start") := by
  refine F.ok scPStart (fun vs H Q E h => ?_) (fun cdv A outer s H vs Q E hr h => ?_)
  · obtain ⟨a, dx, fs, v, rfl, _⟩ := h
    rfl
  · obtain ⟨a, dx, fs, v, rfl, ha, lk, q⟩ := h
    refine ⟨_, pss_one (by exact (ps_ret (pe_fld (pv 0) rfl))), ?_⟩
    exact ⟨_, rfl, a, D, dx, fs, v, rfl, ha, c, no, lk, q⟩
abbrev sPStop : Stmt := cb 49 2
theorem scPStop : FnScope ["self"] ["self"] (defScope sPStop) := ⟨rfl, rfl, rfl, by decide +kernel, rfl, by decide +kernel, by decide +kernel⟩
theorem ok_PStop {f D : Addr} {fd : FuncData} (F : Fun K "stop" "Range.stop" sPStop f fd) (c : Cls K D) (no : NoAttr K D "_stop") : FnOk P w K mg base CX0 1 f fd ["self"] (spGet D "_stop") := by
  refine F.ok scPStop (fun vs H Q E h => ?_) (fun cdv A outer s H vs Q E hr h => ?_)
  · obtain ⟨a, dx, fs, v, rfl, _⟩ := h
    rfl
  · obtain ⟨a, dx, fs, v, rfl, ha, lk, q⟩ := h
    refine ⟨_, pss_one (by exact (ps_ret (pe_fld (pv 0) rfl))), ?_⟩
    exact ⟨_, rfl, a, D, dx, fs, v, rfl, ha, c, no, lk, q⟩
abbrev sPCount : Stmt := cb 50 1
theorem scPCount : FnScope ["self"] ["self"] (defScope sPCount) := ⟨rfl, rfl, rfl, by decide +kernel, rfl, by decide +kernel, by decide +kernel⟩
theorem ok_PCount {f D : Addr} {fd : FuncData} (F : Fun K "number" "Count.number" sPCount f fd) (c : Cls K D) (no : NoAttr K D "_number") : FnOk P w K mg base CX0 1 f fd ["self"] (spGet D "_number") := by
  refine F.ok scPCount (fun vs H Q E h => ?_) (fun cdv A outer s H vs Q E hr h => ?_)
  · obtain ⟨a, dx, fs, v, rfl, _⟩ := h
    rfl
  · obtain ⟨a, dx, fs, v, rfl, ha, lk, q⟩ := h
    refine ⟨_, pss_one (by exact (ps_ret (pe_fld (pv 0) rfl))), ?_⟩
    exact ⟨_, rfl, a, D, dx, fs, v, rfl, ha, c, no, lk, q⟩
/-- what is asked of an address that stands within another -/
def OkIn (o : Option A) : Prop := ∀ a, o = some a → a.wf ∧ a.dep ≤ 8 ∧ a.all.length ≤ 1000
def hasR (a : A) : Bool := a.all.any fun k => decide (k.cls = 16)
def spINot (C : Nat → Addr) (B D : Addr) : Sp := fun vs H Q E => ∃ (a dx : Addr) (x : V) (o : Option A), vs = [.ref a, x] ∧ H a = some (.ins B dx []) ∧ ThV C H x o ∧ OkIn o ∧ (fitA o = true → ∀ H', H' a = some (.ins B dx [("_address", x)]) → But a H H' → Q .non H') ∧ (fitA o = false → Refuses D H E "address")
abbrev sINot : Stmt := cb 48 0
theorem scINot : FnScope ["self", "address"] ["self", "address"] (defScope sINot) := ⟨rfl, rfl, rfl, by decide +kernel, rfl, by decide +kernel, by decide +kernel⟩
theorem ok_INot {f f1 B D fI : Addr} {fd fd1 fdI : FuncData} (F : Fun K "__init__" "Not.__init__" sINot f fd) (T : C1 K B "_address") (X : ErrAd P w K mg base D fI fdI) (M : CallOf P w K mg base 12 "fits_within_scripts" ["value"] (spFitA C) f1 fd1) : FnOk P w K mg base (L2.CX P w) 14 f fd ["self", "address"] (spINot C B D) := by
  refine F.okX scINot (fun vs H Q E h => ?_) (fun cdv A outer s H vs Q E hr h => ?_)
  · obtain ⟨a, dx, x, o, rfl, _⟩ := h
    rfl
  · obtain ⟨a, dx, x, o, rfl, ha, hx, oi, q1, q2⟩ := h
    have hr2 : Room 2 _ := hr.mono (by decide)
    have hr12 : Room 12 _ := hr.mono (by decide)
    refine ⟨_, pss_cons (by exact (ps_if (pt_not (pt_val (pe_call M.ok hr12 rfl M.m M.k M.b .nil pass0 (pa_cons (pv 1) pa_nil)))) (pss_one (ps_raise rfl (takes_of rfl rfl rfl rfl) (pmk_oex X.T X.i X.ty X.ok hr2 X.b .nil pass0 rfl X.m (pa_cons pe_str pa_nil)))) pss_nil)) (pss_one (by exact (ps_fld (pv 0) (pv 1) rfl))), ?_⟩
    refine ⟨_, rfl, x, o, rfl, hx, fun b e => ⟨(oi b e).1, (oi b e).2.1⟩, fun H1 s1 => ⟨_, rfl, ?_⟩⟩
    cases e : fitA o with
    | false => exact iteT (rd_raise X.T X.no ((q2 e).later s1))
    | true => exact iteF ⟨_, rfl, _, rfl, a, B, dx, [], rfl, s1 _ _ ha, T.cls, T.no, by decide, q1 e _ upd_same (But.same_put s1)⟩
/-- may begin a Range; may end one -/
def beginR : Option A → Bool
  | some a => fitA (some a) && !hasR a
  | none => false
def clsIs (j : Nat) : Option A → Bool
  | some a => decide (a.cls = j)
  | none => false
abbrev isCnt (o : Option A) : Bool := clsIs 17 o
def endR (o : Option A) : Bool := isCnt o || beginR o
def spIRange (C : Nat → Addr) (B D : Addr) : Sp := fun vs H Q E => ∃ (a dx : Addr) (x y : V) (o p : Option A), vs = [.ref a, x, y] ∧ H a = some (.ins B dx []) ∧ ThV C H x o ∧ ThV C H y p ∧ OkIn o ∧ OkIn p ∧
  (beginR o = true → endR p = true → ∀ H', H' a = some (.ins B dx [("_start", x), ("_stop", y)]) → But a H H' → Q .non H') ∧ (beginR o = false → Refuses D H E "start") ∧ (beginR o = true → endR p = false → Refuses D H E "stop")
abbrev sIRange : Stmt := cb 49 0
theorem scIRange : FnScope ["self", "start", "stop"] ["self", "start", "stop"] (defScope sIRange) := ⟨rfl, rfl, rfl, by decide +kernel, rfl, by decide +kernel, by decide +kernel⟩
theorem AnyV.noC {K : PySem.W.Frag} {C : Nat → Addr} {CA : Addr} (k : KA K C CA) {H : Hp} {x : V} (a : AnyV H x) {j : Nat} (hj : j < 18) : ∃ t, TyX K H x t ∧ PySem.W.kitOne K t (.ref (C j)) = some false := by
  obtain ⟨n, hn, ty⟩ := a.cls (K := K)
  exact ⟨_, ty, k.out hn hj⟩
theorem ThV.isC {K : PySem.W.Frag} {C : Nat → Addr} {CA : Addr} (k : KA K C CA) {H : Hp} {x : V} {o : Option A} (h : ThV C H x o) {j : Nat} (hj : j < 18) : ∃ t, TyX K H x t ∧ PySem.W.kitOne K t (.ref (C j)) = some (clsIs j o) := by
  rcases h with ⟨a, rfl⟩ | ⟨a, ha, rfl⟩
  · exact a.noC k hj
  · exact ⟨_, ha.ty k, k.kit _ _ ha.at_.1.2 hj⟩
theorem ok_IRange {f f1 f2 B D fI : Addr} {fd fd1 fd2 fdI : FuncData} (F : Fun K "__init__" "Range.__init__" sIRange f fd) (N : NamA mg C CA) (k : KA K C CA) (c : Cls K B) (n1 : NoAttr K B "_start") (n2 : NoAttr K B "_stop") (X : ErrAd P w K mg base D fI fdI) (M : CallOf P w K mg base 12 "fits_within_scripts" ["value"] (spFitA C) f1 fd1) (R : CallOf P w K mg base 12 "ranges_of" ["address"] (spRof C) f2 fd2) :
    FnOk P w K mg base (L2.CX P w) 14 f fd ["self", "start", "stop"] (spIRange C B D) := by
  refine F.okX scIRange (fun vs H Q E h => ?_) (fun cdv A outer s H vs Q E hr h => ?_)
  · obtain ⟨a, dx, x, y, o, p, rfl, _⟩ := h
    rfl
  · obtain ⟨a, dx, x, y, o, p, rfl, ha, hx, hy, oi, pi, q1, q2, q3⟩ := h
    have hr2 : Room 2 _ := hr.mono (by decide)
    have hr12 : Room 12 _ := hr.mono (by decide)
    refine ⟨_, pss_cons (by exact (ps_if (PW.pt (pw_or (pt_not (pt_val (pe_call M.ok hr12 rfl M.m M.k M.b .nil pass0 (pa_cons (pv 1) pa_nil)))) (pw_or1 (pt_truth (pe_call R.ok hr12 rfl R.m R.k R.b .nil pass0 (pa_cons (pv 1) pa_nil)) (fun _ => rfl))))) (pss_one (ps_raise rfl (takes_of rfl rfl rfl rfl) (pmk_oex X.T X.i X.ty X.ok hr2 X.b .nil pass0 rfl X.m (pa_cons pe_str pa_nil)))) pss_nil))
      (pss_cons (by exact (ps_if (PW.pt (pw_and (pt_not (pt_val (pe_callB call_isi (by rfl) N.isM (by decide +kernel) (pa_cons (pv 2) (pa_cons (pe_glob (v := .ref (C 17)) rfl N.count rfl) pa_nil))))) (pw_and1 (PW.pt (pw_or (pt_not (pt_val (pe_call M.ok hr12 rfl M.m M.k M.b .nil pass0 (pa_cons (pv 2) pa_nil)))) (pw_or1 (pt_truth (pe_call R.ok hr12 rfl R.m R.k R.b .nil pass0 (pa_cons (pv 2) pa_nil)) (fun _ => rfl)))))))) (pss_one (ps_raise rfl (takes_of rfl rfl rfl rfl) (pmk_oex X.T X.i X.ty X.ok hr2 X.b .nil pass0 rfl X.m (pa_cons pe_str pa_nil)))) pss_nil))
      (pss_cons (by exact (ps_fld (pv 0) (pv 1) rfl)) (pss_one (by exact (ps_fld (pv 0) (pv 2) rfl))))), ?_⟩
    refine ⟨_, rfl, x, o, rfl, hx, fun b e => ⟨(oi b e).1, (oi b e).2.1⟩, fun H1 s1 => ⟨_, rfl, ?_⟩⟩
    cases e : fitA o with
    | false =>
      have b0 : beginR o = false := by
        cases o with
        | none => rfl
        | some z =>
          show (fitA (some z) && _) = false
          rw [e]
          rfl
      exact iteT (iteT (rd_raise X.T X.no ((q2 b0).later s1)))
    | true =>
      refine iteF ?_
      cases o with
      | none => cases e
      | some t =>
        rcases hx with ⟨_, z⟩ | ⟨t', ht, z⟩
        · cases z
        · cases z
          have ia : t.isA = true := by
            have e2 : (t.isA && decide (t.dep < 8)) = true := e
            exact (Bool.and_eq_true_iff.mp e2).1
          obtain ⟨wf, d8, few⟩ := oi t rfl
          refine ⟨_, rfl, t, x, rfl, ht.same s1, wf, ia, d8, few, fun L us H2 hL nL em s2 => ⟨_, .inl ⟨us, SqL.of hL, rfl⟩, ?_⟩⟩
          have s12 := s1.trans s2
          have er : (!us.isEmpty) = hasR t := by
            rw [em]
            show (!(!hasR t)) = hasR t
            cases hasR t <;> rfl
          rw [er]
          have eb : beginR (some t) = !hasR t := by
            show (fitA (some t) && !hasR t) = _
            rw [e, Bool.true_and]
          cases eh : hasR t with
          | true =>
            rw [eh] at eb
            exact iteT (rd_raise X.T X.no ((q2 eb).later s12))
          | false =>
            rw [eh] at eb
            refine iteF ?_
            have fin : endR p = true → ∀ H3, Same H2 H3 → sFld K (tVar 0) (tVar 1) "_start" { nx := fun σ' H' => sFld K (tVar 0) (tVar 2) "_stop" { nx := fun _ H' => Q .non H', rt := Q } σ' H', rt := Q } (start ["self", "start", "stop"] [.ref a, x, y]) H3 := fun ep H3 s3 => by
              refine ⟨_, rfl, _, rfl, a, B, dx, [], rfl, s3 _ _ (s12 _ _ ha), c, n1, by decide, ?_⟩
              refine ⟨_, rfl, _, rfl, a, B, dx, _, rfl, upd_same, c, n2, (by show 1 < 1000; decide), ?_⟩
              rw [upd_upd]
              exact q1 eb ep _ upd_same (But.same_put (s12.trans s3))
            obtain ⟨ty, hty, hk⟩ := (hy.same s12).isC k (j := 17) (by decide)
            refine ⟨_, rfl, _, _, _, _, _, rfl, .own (C 17), hty, hk, _, rfl, ?_⟩
            cases ec : clsIs 17 p with
            | true =>
              have ep : endR p = true := by
                unfold endR isCnt
                rw [ec]
                rfl
              exact iteF (iteF (fin ep H2 fun _ _ z => z))
            | false =>
              have ep : endR p = beginR p := by
                unfold endR isCnt
                rw [ec]
                rfl
              refine iteT ⟨_, rfl, y, p, rfl, hy.same s12, fun b e => ⟨(pi b e).1, (pi b e).2.1⟩, fun H3 s3 => ⟨_, rfl, ?_⟩⟩
              have s13 := s12.trans s3
              cases e4 : fitA p with
              | false =>
                have b0 : beginR p = false := by
                  cases p with
                  | none => rfl
                  | some z =>
                    show (fitA (some z) && _) = false
                    rw [e4]
                    rfl
                rw [← ep] at b0
                exact iteT (iteT (rd_raise X.T X.no ((q3 eb b0).later s13)))
              | true =>
                refine iteF ?_
                cases p with
                | none => cases e4
                | some u =>
                  rcases hy with ⟨_, z⟩ | ⟨u', hu, z⟩
                  · cases z
                  · cases z
                    have iu : u.isA = true := by
                      have e2 : (u.isA && decide (u.dep < 8)) = true := e4
                      exact (Bool.and_eq_true_iff.mp e2).1
                    obtain ⟨wf2, d82, few2⟩ := pi u rfl
                    refine ⟨_, rfl, u, y, rfl, hu.same s13, wf2, iu, d82, few2, fun L2 us2 H4 hL2 nL2 em2 s4 => ⟨_, .inl ⟨us2, SqL.of hL2, rfl⟩, ?_⟩⟩
                    have er2 : (!us2.isEmpty) = hasR u := by
                      rw [em2]
                      show (!(!hasR u)) = hasR u
                      cases hasR u <;> rfl
                    rw [er2]
                    have eb2 : beginR (some u) = !hasR u := by
                      show (fitA (some u) && !hasR u) = _
                      rw [e4, Bool.true_and]
                    cases eh2 : hasR u with
                    | true =>
                      rw [eh2] at eb2
                      exact iteT (rd_raise X.T X.no ((q3 eb (ep.trans eb2)).later (s13.trans s4)))
                    | false =>
                      rw [eh2] at eb2
                      exact iteF (fin (ep.trans eb2) H4 (s3.trans s4))
end
end LA
end
section
set_option Elab.async false
set_option linter.all false
set_option maxRecDepth 100000
set_option maxHeartbeats 4100000
namespace RfX
open PySem PySem.Spec PyProof.Rows L2 XO Builtin PySem.SeqAt GQ
open AutoSeq1 (wpAny_loadPart')
/-! ### x == y where x is a value of Python's own and y an instance with an own __eq__ -/
theorem list_shape (u : Value) (b : Addr) : ∃ k : Sem Fin, Builtin.«list.__eq__» ⟨[u, .ref b], []⟩ = (isInstance (.ref b) (.type "list") >>= fun r => if (!r) = true then (ret .notImplemented >>= fun v => pure v) else k) := ⟨_, rfl⟩
theorem tuple_shape (u : Value) (b : Addr) : ∃ k : Sem Fin, Builtin.«tuple.__eq__» ⟨[u, .ref b], []⟩ = (isInstance (.ref b) (.type "tuple") >>= fun r => if (!r) = true then (ret .notImplemented >>= fun v => pure v) else k) := ⟨_, rfl⟩
theorem dict_shape (u : Value) (b : Addr) : ∃ k : Value × Value → Sem Fin, Builtin.«dict.__eq__» ⟨[u, .ref b], []⟩ = (Builtin.Dict.dictSlotArgs "__eq__" ⟨[u, .ref b], []⟩ >>= k) ∧ ∀ p, ∃ (m : String) (k2 : Sem Fin), k p = (isInstance p.2 (.type "dict") >>= fun r => if (!r) = true then (rule m >>= fun _ => ret .notImplemented >>= fun v => pure v) else k2) := ⟨_, rfl, fun p => ⟨_, _, rfl⟩⟩
section
variable {prog : Program} {w : World} {A : Around} {E : Value → Shared → Prop} {s : Shared} {R : Result → Shared → Prop}
theorem int_dec_bool (x : Bool) (l : Addr) (c : Value) (dd : Option Addr) (sl : Array (Option Value)) :
    Meets (Builtin.«int.__eq__» ⟨[.bool x, .ref l], []⟩) (fun _ R s => s.heap.get? l = some { cls := c, dict := dd, data := .plain, slots := sl } ∧ R (.ok (.ret .notImplemented)) s) :=
  .of_wp fun prog w A R s h => by obtain ⟨hp, g, d, tk, os⟩ := s; obtain ⟨hl, h⟩ := h; wp_walk using wpAny_loadPart' hl, wpAny_load hl; exact ⟨_, rfl, h⟩
theorem int_dec_int (x : Int) (u : Tok) (l : Addr) (c : Value) (dd : Option Addr) (sl : Array (Option Value)) :
    Meets (Builtin.«int.__eq__» ⟨[.int x u, .ref l], []⟩) (fun _ R s => s.heap.get? l = some { cls := c, dict := dd, data := .plain, slots := sl } ∧ R (.ok (.ret .notImplemented)) s) :=
  .of_wp fun prog w A R s h => by obtain ⟨hp, g, d, tk, os⟩ := s; obtain ⟨hl, h⟩ := h; wp_walk using wpAny_loadPart' hl, wpAny_load hl; exact ⟨_, rfl, h⟩
theorem str_dec_str (x : PySem.Str) (u : Tok) (l : Addr) (c : Value) (dd : Option Addr) (sl : Array (Option Value)) :
    Meets (Builtin.«str.__eq__» ⟨[.str x u, .ref l], []⟩) (fun _ R s => s.heap.get? l = some { cls := c, dict := dd, data := .plain, slots := sl } ∧ R (.ok (.ret .notImplemented)) s) :=
  .of_wp fun prog w A R s h => by obtain ⟨hp, g, d, tk, os⟩ := s; obtain ⟨hl, h⟩ := h; wp_walk using wpAny_loadPart' hl, wpAny_load hl; exact ⟨_, rfl, h⟩
/-- the object at b is an instance of C, no list, tuple, dict -/
structure OwnAt (M : Model) (h : Heap) (b C dx : Addr) : Prop where
  at_ : h.get? b = some (PySem.W.instObj C dx)
  no : ∀ T, T = "list" ∨ T = "tuple" ∨ T = "dict" → PySem.W.Looks M h (isInstance (.ref b) (.type T)) false
theorem dec {X : Cx} {H : Hp} {x : V} {u : Value} {T : String} {b C dx : Addr} {Q : Option Value → Shared → Prop} {pins : List (Addr × Obj)} {σ : L2.St} (I : Inv X pins σ H s) (rx : RelV x u) (t : TyB X.K H x T) (nb : T ≠ "bytes")
    (O : OwnAt (model X.prog X.w) s.heap b C dx) (h : Q none s) : wpAny (model X.prog X.w) A (tryCompare u "__eq__" (.ref b)) Q E s := by
  have hT := t.is I rx
  cases t with
  | non =>
    cases rx
    exact wpAny_tryCompare_declines hT F.slot_NoneType_eq (call_gives F.slot_NoneType_eq rfl F.entry_NoneType_eq (F.args_NoneType_eq_2 _ _) (NoneType___eq___none_ref_0 b) ⟨rfl, h⟩)
  | bl y =>
    cases rx
    exact wpAny_tryCompare_declines hT F.slot_bool_eq (call_meets F.slot_bool_eq hT F.entry_int_eq (F.args_int_eq_2 _ _) (int_dec_bool y b _ _ _) ⟨O.at_, rfl, h⟩)
  | int y =>
    obtain ⟨tk, rfl⟩ := rx
    exact wpAny_tryCompare_declines hT F.slot_int_eq (call_meets F.slot_int_eq hT F.entry_int_eq (F.args_int_eq_2 _ _) (int_dec_int y tk b _ _ _) ⟨O.at_, rfl, h⟩)
  | str y =>
    obtain ⟨tk, rfl⟩ := rx
    exact wpAny_tryCompare_declines hT F.slot_str_eq (call_meets F.slot_str_eq hT F.entry_str_eq (F.args_str_eq_2 _ _) (str_dec_str y tk b _ _ _) ⟨O.at_, rfl, h⟩)
  | byt y => exact absurd rfl nb
  | lst q =>
    obtain ⟨k, e⟩ := list_shape u b
    refine wpAny_tryCompare_declines hT F.slot_list_eq (call_here F.slot_list_eq hT F.entry_list_eq (F.args_list_eq_2 _ _) ?_)
    rw [e]
    refine wpAny_bind ((O.no "list" (.inl rfl)).here ?_)
    rw [show (!false) = true from rfl, if_pos rfl]
    exact wpAny_bind (wpAny_pure (wpAny_pure ⟨rfl, h⟩))
  | tup q =>
    obtain ⟨k, e⟩ := tuple_shape u b
    refine wpAny_tryCompare_declines hT F.slot_tuple_eq (call_here F.slot_tuple_eq hT F.entry_tuple_eq (F.args_tuple_eq_2 _ _) ?_)
    rw [e]
    refine wpAny_bind ((O.no "tuple" (.inr (.inl rfl))).here ?_)
    rw [show (!false) = true from rfl, if_pos rfl]
    exact wpAny_bind (wpAny_pure (wpAny_pure ⟨rfl, h⟩))
  | dK q =>
    obtain ⟨k, e, ek⟩ := dict_shape u b
    obtain ⟨m, k2, ek⟩ := ek (u, .ref b)
    refine wpAny_tryCompare_declines hT F.slot_dict_eq (call_here F.slot_dict_eq hT F.entry_dict_eq (F.args_dict_eq_2 _ _) ?_)
    rw [e]
    unfold Builtin.Dict.dictSlotArgs
    refine wpAny_bind (wpAny_bind (wpAny_notOrdered_dict hT ?_))
    refine wpAny_bind (wpAny_of_eq (a := ((u : Value), [Value.ref b])) (by first | rfl | (simp only [slotArgs]; rfl)) (wpAny_pure ?_))
    rw [ek]
    refine wpAny_bind ((O.no "dict" (.inr (.inr rfl))).here ?_)
    rw [show (!false) = true from rfl, if_pos rfl]
    exact wpAny_bind (wpAny_rule (wpAny_bind (wpAny_pure (wpAny_pure ⟨rfl, h⟩))))
end
/-- an own class, no subclass of Python's own that x may be of -/
structure Out7 (K : PySem.W.Frag) (C : Addr) : Prop where
  no : ∀ T ∈ (["NoneType", "bool", "int", "str", "list", "tuple", "dict"] : List String), PySem.W.subIn K (.ref C) (.type T) = some false
theorem tyb_in {K : PySem.W.Frag} {H : Hp} {x : V} {T : String} (t : TyB K H x T) (nb : T ≠ "bytes") : T ∈ (["NoneType", "bool", "int", "str", "list", "tuple", "dict"] : List String) := by
  cases t <;> first | decide | exact absurd rfl nb
section
variable {X : Cx} {CX : CXT} {n : Nat} {C f : Addr} {fd : FuncData} {ps : List PySem.Str} {sp : Sp} {E : XK}
def rReflE (K : PySem.W.Frag) (C : Addr) (sp : Sp) (E : XK) : R2 := fun x y H Q => ∃ a dx fs T, y = .ref a ∧ H a = some (.ins C dx fs) ∧ TyB K H x T ∧ T ≠ "bytes" ∧ sp [.ref a, x] H (fun z H' => ∃ b, z = .bl b ∧ Q (.bl b) H') E
theorem op_refl (F : FnOk X.prog X.w X.K X.mg X.base CX n f fd ps sp) (hs : PySem.W.findIn X.K (.ref C) "__eq__" = some (some (.ref f))) (hf : PySem.W.isFn X.K (.ref f) = true) (hb : Binds X.K fd ps []) (hx : Passes CX X E) (room : Room n X.A) (O7 : Out7 X.K C) :
    OpR X (compareOp .Eq) (rReflE X.K C sp E) := by
  intro pins s σ H x y u v Q I rx ry want
  obtain ⟨a, dx, fs, T, rfl, ha, ty, nb, rd⟩ := want
  cases ry
  obtain ⟨mA, OM, _⟩ := ins_get I.hok ha
  obtain ⟨od, J, _⟩ := OM.look
  have kI := I.kIn
  have tin := tyb_in ty nb
  have hT := ty.is I rx
  have L0 : PySem.W.Looks (model X.prog X.w) s.heap (typeOf (.ref a)) (.ref C) := J.type
  have O : OwnAt (model X.prog X.w) s.heap a C dx := ⟨OM.obj, fun T2 h2 => L0.andThen (PySem.W.looks_subIn kI (O7.no T2 (by rcases h2 with rfl | rfl | rfl <;> decide)))⟩
  show wpAny (model X.prog X.w) X.A (richCompare .Eq u (.ref a)) (EP X pins σ Q) X.xe s
  unfold richCompare
  simp only [hT.oneThing_none]
  refine wpAny_holding (wpAny_bind (wpAny_cRoomFor room.units0 ?_))
  refine wpAny_bind (wpAny_typeOf hT (wpAny_bind (L0.here ?_)))
  rw [show (Value.type T != Value.ref C) = true from rfl, if_pos rfl]
  refine wpAny_bind ((PySem.W.looks_subIn kI (O7.no T tin)).here ?_)
  simp only [Bool.false_eq_true, if_false, Bool.not_false, if_true]
  refine wpAny_bind (dec I rx ty nb O ?_)
  have own : wpAny (model X.prog X.w) X.A (tryCompare (.ref a) "__eq__" u) (fun z s' => ∃ b, z = some (Value.bool b) ∧ ∃ H', Inv X pins σ H' s' ∧ Q (.bl b) H') X.xe s := by
    unfold tryCompare
    refine wpAny_bind (PySem.W.ifBound_K kI J hs hf (eq_runs F hb hx room rfl I rx rd fun b s' H' I' q => wpAny_pure ⟨b, rfl, H', I', q⟩))
  refine wpAny_bind (wpAny_mono own (fun z s' hz => ?_) fun _ _ e => e)
  obtain ⟨b, rfl, H', I', q⟩ := hz
  exact wpAny_pure ⟨.bl b, H', I', rfl, q⟩
end
end RfX
end
section
set_option Elab.async false
set_option linter.all false
set_option maxRecDepth 100000
set_option maxHeartbeats 4100000
namespace LA
open PySem L2 XS XT XK XL LamX XO DnX B0X RfX
/-! ### == of addresses -/
def oeq : Option G → Option G → Bool
  | none, none => true
  | some g, some h => geq g h
  | _, _ => false
def aeq : A → A → Bool
  | .any, .any => true
  | .last, .last => true
  | .changed, .changed => true
  | .number m, .number n => decide (m = n)
  | .count m, .count n => decide (m = n)
  | .each s t, .each u v => decide (s = u) && decide (t = v)
  | .if_ g, .if_ h => geq g h
  | .kept g, .kept h => oeq g h
  | .not a, .not b => aeq a b
  | .range a b, .range c d => aeq a c && aeq b d
  | _, _ => false
def olow : Option G → Bool
  | some g => g.low
  | none => true
def A.low : A → Bool
  | .if_ g => g.low
  | .kept g => olow g
  | .not a => a.low
  | .range a b => a.low && b.low
  | _ => true
theorem aeq_cls {a b : A} (n : a.cls ≠ b.cls) : aeq a b = false := by
  cases a <;> cases b <;> first | rfl | exact absurd rfl n
theorem geq_refl : ∀ g : G, geq g g = true
  | .leaf s z => by
    show (decide (s = s) && decide (V.str z = V.str z)) = true
    rw [decide_eq_true rfl, decide_eq_true rfl]
    rfl
  | .fails g => geq_refl g
  | .pair s a b => by
    show (decide (s = s) && (geq a a && geq b b)) = true
    rw [decide_eq_true rfl, geq_refl a, geq_refl b]
    rfl
theorem aeq_refl : ∀ a : A, aeq a a = true
  | .any => rfl
  | .last => rfl
  | .changed => rfl
  | .number m => decide_eq_true rfl
  | .count m => decide_eq_true rfl
  | .each s t => by
    show (decide (s = s) && decide (t = t)) = true
    rw [decide_eq_true rfl, decide_eq_true rfl]
    rfl
  | .if_ g => geq_refl g
  | .kept none => rfl
  | .kept (some g) => geq_refl g
  | .not a => aeq_refl a
  | .range a b => by
    show (aeq a a && aeq b b) = true
    rw [aeq_refl a, aeq_refl b]
    rfl
/-- what an address is held against, and the answer -/
def OthA (C : Nat → Addr) (H : Hp) (a : A) (y : V) (r : Bool) : Prop := (AnyV H y ∧ r = false) ∨ ∃ b, AA C H b y ∧ b.low = true ∧ r = aeq a b
theorem OthA.same {C : Nat → Addr} {H H' : Hp} {a : A} {y : V} {r : Bool} (s : Same H H') (o : OthA C H a y r) : OthA C H' a y r := by
  rcases o with ⟨h, e⟩ | ⟨h, th, e⟩
  · exact .inl ⟨h.same s, e⟩
  · exact .inr ⟨h, th.same s, e⟩
theorem OthA.ty {K : PySem.W.Frag} {C : Nat → Addr} {CA : Addr} {H : Hp} {a : A} {y : V} {r : Bool} (k : KA K C CA) (o : OthA C H a y r) :
    ∃ t, TyX K H y t ∧ (∀ i, i < 18 → PySem.W.notFirst K (C i) t = true) ∧ ∀ i, i < 18 → (PySem.W.kitOne K t (.ref (C i)) = some false ∧ (i = a.cls → r = false)) ∨ (PySem.W.kitOne K t (.ref (C i)) = some true ∧ ∃ b, AA C H b y ∧ b.cls = i ∧ b.low = true ∧ r = aeq a b) := by
  rcases o with ⟨h, rfl⟩ | ⟨b, hb, lo, rfl⟩
  · obtain ⟨n, hn, ty⟩ := h.cls (K := K)
    exact ⟨_, ty, fun i hi => nf_kit (k.out hn hi), fun i hi => .inl ⟨k.out hn hi, fun _ => rfl⟩⟩
  · refine ⟨_, hb.ty k, fun i hi => ?_, fun i hi => ?_⟩
    · by_cases e : b.cls = i
      · rw [e]
        unfold PySem.W.notFirst
        simp
      · have z := k.kit _ i hb.at_.1.2 hi
        rw [decide_eq_false e] at z
        exact nf_kit z
    · have z := k.kit _ i hb.at_.1.2 hi
      by_cases e : b.cls = i
      · rw [decide_eq_true e] at z
        exact .inr ⟨z, b, hb, e, lo, rfl⟩
      · rw [decide_eq_false e] at z
        exact .inl ⟨z, fun e2 => aeq_cls fun z => e (by rw [← z, e2])⟩
/-- the own __eq__ of the i-th class, for addresses of at most D -/
def spEqA (C : Nat → Addr) (i D : Nat) : Sp := fun vs H Q _ => ∃ (a : A) (x y : V) (r : Bool), vs = [x, y] ∧ AA C H a x ∧ a.cls = i ∧ a.low = true ∧ a.wf ∧ a.dep ≤ D ∧ OthA C H a y r ∧ ∀ H', Same H H' → Q (.bl r) H'
structure EqAtA (P : Program) (w : World) (K : PySem.W.Frag) (mg : Str → Option Value) (base : Heap) (C : Nat → Addr) (n i D : Nat) (f : Addr) (fd : FuncData) : Prop where
  ok : FnOk P w K mg base CX0 n f fd ["self", "other"] (spEqA C i D)
  at_ : PySem.W.findIn K (.ref (C i)) "__eq__" = some (some (.ref f))
  fn : PySem.W.isFn K (.ref f) = true
  b : Binds K fd ["self", "other"] []
  ne : PySem.W.findIn K (.ref (C i)) "__ne__" = some (some (.builtin "object.__ne__"))
def rEqA (C : Nat → Addr) (D : Nat) (neg : Bool) : R2 := fun x y H Q => ∃ a r, AA C H a x ∧ a.low = true ∧ a.wf ∧ a.dep ≤ D ∧ OthA C H a y r ∧ ∀ H', Same H H' → Q (.bl (r != neg)) H'
theorem op_a {X : Cx} {C : Nat → Addr} {CA : Addr} {n D : Nat} {f : Nat → Addr} {fd : Nat → FuncData} (k : KA X.K C CA) (M : ∀ i, 8 ≤ i → i < 18 → EqAtA X.prog X.w X.K X.mg X.base C n i D (f i) (fd i)) (room : Room n X.A) : OpR X (compareOp .Eq) (rEqA C D false) := by
  intro pins s σ H x y v u Q I rx ry want
  obtain ⟨a, r, ta, al, aw, ad, ot, q⟩ := want
  obtain ⟨t, ty, nf, _⟩ := ot.ty k
  obtain ⟨⟨l, h18⟩, p, dx, fs, rfl, hp⟩ := ta.at_
  have F := M _ l h18
  exact op_own F.ok F.at_ F.fn F.b pass0 room pins s σ H (.ref p) y v u Q I rx ry ⟨p, dx, fs, t, rfl, hp, ty, nf _ h18, a, .ref p, y, r, rfl, ta, rfl, al, aw, ad, ot, fun H' sm => ⟨r, rfl, q H' sm⟩⟩
theorem op_aNe {X : Cx} {C : Nat → Addr} {CA : Addr} {n D : Nat} {f : Nat → Addr} {fd : Nat → FuncData} (k : KA X.K C CA) (M : ∀ i, 8 ≤ i → i < 18 → EqAtA X.prog X.w X.K X.mg X.base C n i D (f i) (fd i)) (room : Room (n + 1) X.A) : OpR X (compareOp .NotEq) (rEqA C D true) := by
  intro pins s σ H x y v u Q I rx ry want
  obtain ⟨a, r, ta, al, aw, ad, ot, q⟩ := want
  obtain ⟨t, ty, nf, _⟩ := ot.ty k
  obtain ⟨⟨l, h18⟩, p, dx, fs, rfl, hp⟩ := ta.at_
  have F := M _ l h18
  exact op_ownNe F.ok F.at_ F.fn F.b pass0 room F.ne (k.cled _ l h18).obj pins s σ H (.ref p) y v u Q I rx ry ⟨p, dx, fs, t, rfl, hp, ty, nf _ h18, a, .ref p, y, r, rfl, ta, rfl, al, aw, ad, ot, fun H' sm => ⟨r, rfl, q H' sm⟩⟩
/-- x == y, x of Python's own, y an address -/
structure Outs (K : PySem.W.Frag) (C : Nat → Addr) : Prop where
  no : ∀ i, i < 18 → Out7 K (C i)
def rRefA (K : PySem.W.Frag) (C : Nat → Addr) (D : Nat) : R2 := fun x y H Q => ∃ b T, AA C H b y ∧ b.low = true ∧ b.wf ∧ b.dep ≤ D ∧ TyB K H x T ∧ T ≠ "bytes" ∧ AnyV H x ∧ ∀ H', Same H H' → Q (.bl false) H'
theorem op_refA {X : Cx} {C : Nat → Addr} {n D : Nat} {f : Nat → Addr} {fd : Nat → FuncData} (O : Outs X.K C) (M : ∀ i, 8 ≤ i → i < 18 → EqAtA X.prog X.w X.K X.mg X.base C n i D (f i) (fd i)) (room : Room n X.A) : OpR X (compareOp .Eq) (rRefA X.K C D) := by
  intro pins s σ H x y v u Q I rx ry want
  obtain ⟨b, T, tb, bl, bw, bd, ty, nb, av, q⟩ := want
  obtain ⟨⟨l, h18⟩, p, dx, fs, rfl, hp⟩ := tb.at_
  have F := M _ l h18
  exact op_refl F.ok F.at_ F.fn F.b pass0 room (O.no _ h18) pins s σ H x (.ref p) v u Q I rx ry ⟨p, dx, fs, T, rfl, hp, ty, nb, b, .ref p, x, false, rfl, tb, rfl, bl, bw, bd, .inl ⟨av, rfl⟩, fun H' sm => ⟨false, rfl, q H' sm⟩⟩
/-- None == y, y a test -/
def rRefT (C : Nat → Addr) : R2 := fun x y H Q => ∃ g, x = .non ∧ TA C H g y ∧ g.low = true ∧ ∀ H', Same H H' → Q (.bl false) H'
theorem op_refT {X : Cx} {C : Nat → Addr} {f : Nat → Addr} {fd : Nat → FuncData} {n : Nat} (O : Outs X.K C) (M : ∀ i, i < 8 → EqAt X.prog X.w X.K X.mg X.base C n i (f i) (fd i)) (room : Room n X.A) : OpR X (compareOp .Eq) (rRefT C) := by
  intro pins s σ H x y v u Q I rx ry want
  obtain ⟨g, rfl, tg, gl, q⟩ := want
  obtain ⟨g8, p, dx, fs, rfl, hp⟩ := tg.at_
  have F := M _ g8
  exact op_refl F.ok F.at_ F.fn F.b pass0 room (O.no _ (by omega)) pins s σ H .non (.ref p) v u Q I rx ry ⟨p, dx, fs, _, rfl, hp, .non, by decide, g, .ref p, .non, false, rfl, tg, rfl, gl, .inl ⟨.non, rfl⟩, fun H' sm => ⟨false, rfl, q H' sm⟩⟩
end LA
end
section
set_option Elab.async false
set_option linter.all false
set_option maxRecDepth 100000
set_option maxHeartbeats 4100000
namespace LA
open PySem L2 XS XT XK XL LamX XO DnX B0X RfX
theorem AnyV.tyb {K : PySem.W.Frag} {H : Hp} {x : V} (h : AnyV H x) : ∃ T, TyB K H x T ∧ T ≠ "bytes" := by
  cases h with
  | non => exact ⟨_, .non, by decide⟩
  | bl b => exact ⟨_, .bl b, by decide⟩
  | int i => exact ⟨_, .int i, by decide⟩
  | str z e => exact ⟨_, .str z, by decide⟩
  | lst e => exact ⟨_, .lst (SqL.of e), by decide⟩
  | tup e => exact ⟨_, .tup (SqT.of e), by decide⟩
  | dct e => exact ⟨_, .dK e, by decide⟩
theorem A.c8 {a : A} (h : a.cls = 8) : a = .any := by
  cases a <;> first | rfl | simp [A.cls] at h
theorem A.c9 {a : A} (h : a.cls = 9) : ∃ n, a = .number n := by
  cases a <;> first | exact ⟨_, rfl⟩ | simp [A.cls] at h
theorem A.c10 {a : A} (h : a.cls = 10) : ∃ s t, a = .each s t := by
  cases a <;> first | exact ⟨_, _, rfl⟩ | simp [A.cls] at h
theorem A.c11 {a : A} (h : a.cls = 11) : a = .last := by
  cases a <;> first | rfl | simp [A.cls] at h
theorem A.c12 {a : A} (h : a.cls = 12) : ∃ g, a = .if_ g := by
  cases a <;> first | exact ⟨_, rfl⟩ | simp [A.cls] at h
theorem A.c13 {a : A} (h : a.cls = 13) : a = .changed := by
  cases a <;> first | rfl | simp [A.cls] at h
theorem A.c14 {a : A} (h : a.cls = 14) : ∃ g, a = .kept g := by
  cases a <;> first | exact ⟨_, rfl⟩ | simp [A.cls] at h
theorem A.c15 {a : A} (h : a.cls = 15) : ∃ b, a = .not b := by
  cases a <;> first | exact ⟨_, rfl⟩ | simp [A.cls] at h
theorem A.c16 {a : A} (h : a.cls = 16) : ∃ b c, a = .range b c := by
  cases a <;> first | exact ⟨_, _, rfl⟩ | simp [A.cls] at h
theorem A.c17 {a : A} (h : a.cls = 17) : ∃ n, a = .count n := by
  cases a <;> first | exact ⟨_, rfl⟩ | simp [A.cls] at h
theorem int_dec (m n : Int) : decide (V.int m = V.int n) = decide (m = n) := by
  by_cases z : m = n
  · rw [decide_eq_true z, decide_eq_true (by rw [z])]
  · rw [decide_eq_false z, decide_eq_false (fun y => z (by injection y))]
theorem nf_bool (r : Bool) : (r != false) = r := by cases r <;> rfl
theorem lk2a {f g : Str} {u v : V} : ([(f, u), (g, v)] : List (Str × V)).lookup f = some u := by
  simp
section
variable {P : Program} {w : World} {K : PySem.W.Frag} {mg : Str → Option Value} {base : Heap} {C : Nat → Addr} {CA : Addr} {fe : Nat → Addr} {fde : Nat → FuncData}
abbrev sQAny : Stmt := cb 41 0
theorem scQAny : FnScope ["self", "other"] ["self", "other"] (defScope sQAny) := ⟨rfl, rfl, rfl, by decide +kernel, rfl, by decide +kernel, by decide +kernel⟩
theorem ok_QAny {f : Addr} {fd : FuncData} {D : Nat} (F : Fun K "__eq__" "Any.__eq__" sQAny f fd) (N : NamA mg C CA) (k : KA K C CA) : FnOk P w K mg base CX0 1 f fd ["self", "other"] (spEqA C 8 D) := by
  refine F.ok scQAny (fun vs H Q E h => ?_) (fun cdv A outer s H vs Q E hr h => ?_)
  · obtain ⟨a, x, y, r, rfl, _⟩ := h
    rfl
  · obtain ⟨t, x, y, r, rfl, ta, tc, tl, tw, td, ot, q⟩ := h
    obtain ⟨ty, hty, _, key⟩ := ot.ty k
    refine ⟨_, pss_one (by exact (ps_ret (pe_callB call_isi (by rfl) N.isM (by decide +kernel) (pa_cons (pv 1) (pa_cons (pe_glob (v := .ref (C 8)) rfl N.any rfl) pa_nil))))), ?_⟩
    rcases key 8 (by decide) with ⟨no, nr⟩ | ⟨yes, h, th, hc, hl, rfl⟩
    · refine ⟨_, rfl, _, _, _, _, _, rfl, .own (C 8), hty, no, ?_⟩
      rw [nr tc.symm] at q
      exact q H (fun _ _ e => e)
    · refine ⟨_, rfl, _, _, _, _, _, rfl, .own (C 8), hty, yes, ?_⟩
      obtain rfl := LA.A.c8 tc
      obtain rfl := LA.A.c8 hc
      rw [aeq_refl] at q
      exact q H (fun _ _ e => e)

abbrev sQLast : Stmt := cb 44 0
theorem scQLast : FnScope ["self", "other"] ["self", "other"] (defScope sQLast) := ⟨rfl, rfl, rfl, by decide +kernel, rfl, by decide +kernel, by decide +kernel⟩
theorem ok_QLast {f : Addr} {fd : FuncData} {D : Nat} (F : Fun K "__eq__" "Last.__eq__" sQLast f fd) (N : NamA mg C CA) (k : KA K C CA) : FnOk P w K mg base CX0 1 f fd ["self", "other"] (spEqA C 11 D) := by
  refine F.ok scQLast (fun vs H Q E h => ?_) (fun cdv A outer s H vs Q E hr h => ?_)
  · obtain ⟨a, x, y, r, rfl, _⟩ := h
    rfl
  · obtain ⟨t, x, y, r, rfl, ta, tc, tl, tw, td, ot, q⟩ := h
    obtain ⟨ty, hty, _, key⟩ := ot.ty k
    refine ⟨_, pss_one (by exact (ps_ret (pe_callB call_isi (by rfl) N.isM (by decide +kernel) (pa_cons (pv 1) (pa_cons (pe_glob (v := .ref (C 11)) rfl N.last rfl) pa_nil))))), ?_⟩
    rcases key 11 (by decide) with ⟨no, nr⟩ | ⟨yes, h, th, hc, hl, rfl⟩
    · refine ⟨_, rfl, _, _, _, _, _, rfl, .own (C 11), hty, no, ?_⟩
      rw [nr tc.symm] at q
      exact q H (fun _ _ e => e)
    · refine ⟨_, rfl, _, _, _, _, _, rfl, .own (C 11), hty, yes, ?_⟩
      obtain rfl := LA.A.c11 tc
      obtain rfl := LA.A.c11 hc
      rw [aeq_refl] at q
      exact q H (fun _ _ e => e)

abbrev sQChanged : Stmt := cb 46 0
theorem scQChanged : FnScope ["self", "other"] ["self", "other"] (defScope sQChanged) := ⟨rfl, rfl, rfl, by decide +kernel, rfl, by decide +kernel, by decide +kernel⟩
theorem ok_QChanged {f : Addr} {fd : FuncData} {D : Nat} (F : Fun K "__eq__" "Changed.__eq__" sQChanged f fd) (N : NamA mg C CA) (k : KA K C CA) : FnOk P w K mg base CX0 1 f fd ["self", "other"] (spEqA C 13 D) := by
  refine F.ok scQChanged (fun vs H Q E h => ?_) (fun cdv A outer s H vs Q E hr h => ?_)
  · obtain ⟨a, x, y, r, rfl, _⟩ := h
    rfl
  · obtain ⟨t, x, y, r, rfl, ta, tc, tl, tw, td, ot, q⟩ := h
    obtain ⟨ty, hty, _, key⟩ := ot.ty k
    refine ⟨_, pss_one (by exact (ps_ret (pe_callB call_isi (by rfl) N.isM (by decide +kernel) (pa_cons (pv 1) (pa_cons (pe_glob (v := .ref (C 13)) rfl N.changed rfl) pa_nil))))), ?_⟩
    rcases key 13 (by decide) with ⟨no, nr⟩ | ⟨yes, h, th, hc, hl, rfl⟩
    · refine ⟨_, rfl, _, _, _, _, _, rfl, .own (C 13), hty, no, ?_⟩
      rw [nr tc.symm] at q
      exact q H (fun _ _ e => e)
    · refine ⟨_, rfl, _, _, _, _, _, rfl, .own (C 13), hty, yes, ?_⟩
      obtain rfl := LA.A.c13 tc
      obtain rfl := LA.A.c13 hc
      rw [aeq_refl] at q
      exact q H (fun _ _ e => e)

abbrev sQNumber : Stmt := cb 42 2
theorem scQNumber : FnScope ["self", "other"] ["self", "other"] (defScope sQNumber) := ⟨rfl, rfl, rfl, by decide +kernel, rfl, by decide +kernel, by decide +kernel⟩
theorem ok_QNumber {f : Addr} {fd : FuncData} {D : Nat} (F : Fun K "__eq__" "Number.__eq__" sQNumber f fd) (N : NamA mg C CA) (k : KA K C CA) (T : C1 K (C 9) "_number") : FnOk P w K mg base CX0 1 f fd ["self", "other"] (spEqA C 9 D) := by
  refine F.ok scQNumber (fun vs H Q E h => ?_) (fun cdv A outer s H vs Q E hr h => ?_)
  · obtain ⟨a, x, y, r, rfl, _⟩ := h
    rfl
  · obtain ⟨t, x, y, r, rfl, ta, tc, tl, tw, td, ot, q⟩ := h
    obtain ⟨ty, hty, _, key⟩ := ot.ty k
    refine ⟨_, pss_one (by exact (ps_ret (pe_and (pe_callB call_isi (by rfl) N.isM (by decide +kernel) (pa_cons (pv 1) (pa_cons (pe_glob (v := .ref (C 9)) rfl N.number rfl) pa_nil))) (pe_one (pe_cmpR op_eq (pe_fld (pv 0) rfl) (pe_fld (pv 1) rfl) (nomark _)))))), ?_⟩
    rcases key 9 (by decide) with ⟨no, nr⟩ | ⟨yes, h, th, hc, hl, rfl⟩
    · refine ⟨_, rfl, _, _, _, _, _, rfl, .own (C 9), hty, no, _, rfl, iteF ?_⟩
      rw [nr tc.symm] at q
      exact q H (fun _ _ e => e)
    · refine ⟨_, rfl, _, _, _, _, _, rfl, .own (C 9), hty, yes, _, rfl, iteT ?_⟩
      obtain ⟨m, rfl⟩ := LA.A.c9 tc
      obtain ⟨n, rfl⟩ := LA.A.c9 hc
      obtain ⟨a, dx, rfl, ha⟩ := ta
      obtain ⟨b, dy, rfl, hb⟩ := th
      refine ⟨_, rfl, a, C 9, dx, _, _, rfl, ha, T.cls, T.no, look1, _, rfl, b, C 9, dy, _, _, rfl, hb, T.cls, T.no, look1, rfl, ?_⟩
      rw [int_dec]
      exact q H (fun _ _ e => e)

abbrev sQCount : Stmt := cb 50 2
theorem scQCount : FnScope ["self", "other"] ["self", "other"] (defScope sQCount) := ⟨rfl, rfl, rfl, by decide +kernel, rfl, by decide +kernel, by decide +kernel⟩
theorem ok_QCount {f : Addr} {fd : FuncData} {D : Nat} (F : Fun K "__eq__" "Count.__eq__" sQCount f fd) (N : NamA mg C CA) (k : KA K C CA) (T : C1 K (C 17) "_number") : FnOk P w K mg base CX0 1 f fd ["self", "other"] (spEqA C 17 D) := by
  refine F.ok scQCount (fun vs H Q E h => ?_) (fun cdv A outer s H vs Q E hr h => ?_)
  · obtain ⟨a, x, y, r, rfl, _⟩ := h
    rfl
  · obtain ⟨t, x, y, r, rfl, ta, tc, tl, tw, td, ot, q⟩ := h
    obtain ⟨ty, hty, _, key⟩ := ot.ty k
    refine ⟨_, pss_one (by exact (ps_ret (pe_and (pe_callB call_isi (by rfl) N.isM (by decide +kernel) (pa_cons (pv 1) (pa_cons (pe_glob (v := .ref (C 17)) rfl N.count rfl) pa_nil))) (pe_one (pe_cmpR op_eq (pe_fld (pv 0) rfl) (pe_fld (pv 1) rfl) (nomark _)))))), ?_⟩
    rcases key 17 (by decide) with ⟨no, nr⟩ | ⟨yes, h, th, hc, hl, rfl⟩
    · refine ⟨_, rfl, _, _, _, _, _, rfl, .own (C 17), hty, no, _, rfl, iteF ?_⟩
      rw [nr tc.symm] at q
      exact q H (fun _ _ e => e)
    · refine ⟨_, rfl, _, _, _, _, _, rfl, .own (C 17), hty, yes, _, rfl, iteT ?_⟩
      obtain ⟨m, rfl⟩ := LA.A.c17 tc
      obtain ⟨n, rfl⟩ := LA.A.c17 hc
      obtain ⟨a, dx, rfl, ha⟩ := ta
      obtain ⟨b, dy, rfl, hb⟩ := th
      refine ⟨_, rfl, a, C 17, dx, _, _, rfl, ha, T.cls, T.no, look1, _, rfl, b, C 17, dy, _, _, rfl, hb, T.cls, T.no, look1, rfl, ?_⟩
      rw [int_dec]
      exact q H (fun _ _ e => e)

abbrev sQEach : Stmt := cb 43 3
theorem scQEach : FnScope ["self", "other"] ["self", "other"] (defScope sQEach) := ⟨rfl, rfl, rfl, by decide +kernel, rfl, by decide +kernel, by decide +kernel⟩
theorem ok_QEach {f : Addr} {fd : FuncData} {D : Nat} (F : Fun K "__eq__" "Each.__eq__" sQEach f fd) (N : NamA mg C CA) (k : KA K C CA) (c : Cls K (C 10)) (n1 : NoAttr K (C 10) "_step") (n2 : NoAttr K (C 10) "_start") : FnOk P w K mg base CX0 1 f fd ["self", "other"] (spEqA C 10 D) := by
  refine F.ok scQEach (fun vs H Q E h => ?_) (fun cdv A outer s H vs Q E hr h => ?_)
  · obtain ⟨a, x, y, r, rfl, _⟩ := h
    rfl
  · obtain ⟨t, x, y, r, rfl, ta, tc, tl, tw, td, ot, q⟩ := h
    obtain ⟨ty, hty, _, key⟩ := ot.ty k
    refine ⟨_, pss_one (by exact (ps_ret (pe_and (pe_callB call_isi (by rfl) N.isM (by decide +kernel) (pa_cons (pv 1) (pa_cons (pe_glob (v := .ref (C 10)) rfl N.each rfl) pa_nil))) (pe_and (pe_cmpR op_eq (pe_fld (pv 0) rfl) (pe_fld (pv 1) rfl) (nomark _)) (pe_one (pe_cmpR op_eq (pe_fld (pv 0) rfl) (pe_fld (pv 1) rfl) (nomark _))))))), ?_⟩
    rcases key 10 (by decide) with ⟨no, nr⟩ | ⟨yes, h, th, hc, hl, rfl⟩
    · refine ⟨_, rfl, _, _, _, _, _, rfl, .own (C 10), hty, no, _, rfl, iteF ?_⟩
      rw [nr tc.symm] at q
      exact q H (fun _ _ e => e)
    · refine ⟨_, rfl, _, _, _, _, _, rfl, .own (C 10), hty, yes, _, rfl, iteT ?_⟩
      obtain ⟨s1, t1, rfl⟩ := LA.A.c10 tc
      obtain ⟨s2, t2, rfl⟩ := LA.A.c10 hc
      obtain ⟨a, dx, rfl, ha⟩ := ta
      obtain ⟨b, dy, rfl, hb⟩ := th
      refine ⟨_, rfl, a, C 10, dx, _, _, rfl, ha, c, n1, lk2a, _, rfl, b, C 10, dy, _, _, rfl, hb, c, n1, lk2a, rfl, _, rfl, ?_⟩
      rw [int_dec]
      have q0 : Q (.bl (decide (s1 = s2) && decide (t1 = t2))) H := q H (fun _ _ e => e)
      cases e : decide (s1 = s2) with
      | false =>
        rw [e] at q0
        exact iteF q0
      | true =>
        rw [e, Bool.true_and] at q0
        refine iteT ⟨_, rfl, a, C 10, dx, _, _, rfl, ha, c, n2, (by first | rfl | simp), _, rfl, b, C 10, dy, _, _, rfl, hb, c, n2, (by first | rfl | simp), rfl, ?_⟩
        rw [int_dec]
        exact q0

abbrev sQIf : Stmt := cb 45 2
theorem scQIf : FnScope ["self", "other"] ["self", "other"] (defScope sQIf) := ⟨rfl, rfl, rfl, by decide +kernel, rfl, by decide +kernel, by decide +kernel⟩
theorem ok_QIf {f : Addr} {fd : FuncData} {D : Nat} (F : Fun K "__eq__" "If.__eq__" sQIf f fd) (N : NamA mg C CA) (k : KA K C CA) (T : C1 K (C 12) "_test") (M : ∀ i, i < 8 → EqAt P w K mg base C 2 i (fe i) (fde i)) : FnOk P w K mg base CX0 3 f fd ["self", "other"] (spEqA C 12 D) := by
  refine F.ok scQIf (fun vs H Q E h => ?_) (fun cdv A outer s H vs Q E hr h => ?_)
  · obtain ⟨a, x, y, r, rfl, _⟩ := h
    rfl
  · obtain ⟨t, x, y, r, rfl, ta, tc, tl, tw, td, ot, q⟩ := h
    obtain ⟨ty, hty, _, key⟩ := ot.ty k
    refine ⟨_, pss_one (by exact (ps_ret (pe_and (pe_callB call_isi (by rfl) N.isM (by decide +kernel) (pa_cons (pv 1) (pa_cons (pe_glob (v := .ref (C 12)) rfl N.if_ rfl) pa_nil))) (pe_one (pe_cmpR (op_t (by decide) k.kc M hr) (pe_fld (pv 0) rfl) (pe_fld (pv 1) rfl) (nomark _)))))), ?_⟩
    rcases key 12 (by decide) with ⟨no, nr⟩ | ⟨yes, h, th, hc, hl, rfl⟩
    · refine ⟨_, rfl, _, _, _, _, _, rfl, .own (C 12), hty, no, _, rfl, iteF ?_⟩
      rw [nr tc.symm] at q
      exact q H (fun _ _ e => e)
    · refine ⟨_, rfl, _, _, _, _, _, rfl, .own (C 12), hty, yes, _, rfl, iteT ?_⟩
      obtain ⟨g1, rfl⟩ := LA.A.c12 tc
      obtain ⟨g2, rfl⟩ := LA.A.c12 hc
      obtain ⟨a, dx, u, rfl, ha, hu⟩ := ta
      obtain ⟨b, dy, v, rfl, hb, hv⟩ := th
      refine ⟨_, rfl, a, C 12, dx, _, _, rfl, ha, T.cls, T.no, look1, _, rfl, b, C 12, dy, _, _, rfl, hb, T.cls, T.no, look1, g1, _, hu, hu.at_.1, tl, .inr ⟨_, hv, hl, rfl⟩, fun H' sm => ?_⟩
      rw [nf_bool]
      exact q H' sm

/-- None or a test against None or a test -/
def rKept (K : PySem.W.Frag) (C : Nat → Addr) : Nat → R2
  | 0 => rEqT C 8 false
  | 1 => rRefT C
  | _ => fun x y H Q => x = .non ∧ y = .non ∧ Q (.bl true) H
theorem op_kept {X : Cx} {C : Nat → Addr} {f : Nat → Addr} {fd : Nat → FuncData} (k0 : KC X.K C) (O : Outs X.K C) (M : ∀ i, i < 8 → EqAt X.prog X.w X.K X.mg X.base C 2 i (f i) (fd i)) (room : Room 2 X.A) : OpR X (compareOp .Eq) (fun x y H Q => ∃ i, i < 3 ∧ rKept X.K C i x y H Q) :=
  op_any (r := rKept X.K C) fun i hi => match i, hi with
    | 0, _ => op_t (by decide) k0 M room
    | 1, _ => op_refT O M room
    | 2, _ => fun pins s σ H x y v u Q I rx ry w => op_eq pins s σ H x y v u Q I rx ry (by
        obtain ⟨rfl, rfl, q⟩ := w
        exact ⟨rfl, q⟩)
    | n + 3, h => absurd h (by omega)
abbrev sQKept : Stmt := cb 47 2
theorem scQKept : FnScope ["self", "other"] ["self", "other"] (defScope sQKept) := ⟨rfl, rfl, rfl, by decide +kernel, rfl, by decide +kernel, by decide +kernel⟩
theorem ok_QKept {f : Addr} {fd : FuncData} {D : Nat} (F : Fun K "__eq__" "Kept.__eq__" sQKept f fd) (N : NamA mg C CA) (k : KA K C CA) (O : Outs K C) (T : C1 K (C 14) "_test") (M : ∀ i, i < 8 → EqAt P w K mg base C 2 i (fe i) (fde i)) : FnOk P w K mg base CX0 3 f fd ["self", "other"] (spEqA C 14 D) := by
  refine F.ok scQKept (fun vs H Q E h => ?_) (fun cdv A outer s H vs Q E hr h => ?_)
  · obtain ⟨a, x, y, r, rfl, _⟩ := h
    rfl
  · obtain ⟨t, x, y, r, rfl, ta, tc, tl, tw, td, ot, q⟩ := h
    obtain ⟨ty, hty, _, key⟩ := ot.ty k
    refine ⟨_, pss_one (by exact (ps_ret (pe_and (pe_callB call_isi (by rfl) N.isM (by decide +kernel) (pa_cons (pv 1) (pa_cons (pe_glob (v := .ref (C 14)) rfl N.kept rfl) pa_nil))) (pe_one (pe_cmpR (op_kept k.kc O M hr) (pe_fld (pv 0) rfl) (pe_fld (pv 1) rfl) (nomark _)))))), ?_⟩
    rcases key 14 (by decide) with ⟨no, nr⟩ | ⟨yes, h, th, hc, hl, rfl⟩
    · refine ⟨_, rfl, _, _, _, _, _, rfl, .own (C 14), hty, no, _, rfl, iteF ?_⟩
      rw [nr tc.symm] at q
      exact q H (fun _ _ e => e)
    · refine ⟨_, rfl, _, _, _, _, _, rfl, .own (C 14), hty, yes, _, rfl, iteT ?_⟩
      obtain ⟨g1, rfl⟩ := LA.A.c14 tc
      obtain ⟨g2, rfl⟩ := LA.A.c14 hc
      cases g1 with
      | none =>
        obtain ⟨a, dx, rfl, ha⟩ := ta
        cases g2 with
        | none =>
          obtain ⟨b, dy, rfl, hb⟩ := th
          exact ⟨_, rfl, a, C 14, dx, _, _, rfl, ha, T.cls, T.no, look1, _, rfl, b, C 14, dy, _, _, rfl, hb, T.cls, T.no, look1, 2, by decide, rfl, rfl, q H (fun _ _ e => e)⟩
        | some g =>
          obtain ⟨b, dy, v, rfl, hb, hv⟩ := th
          exact ⟨_, rfl, a, C 14, dx, _, _, rfl, ha, T.cls, T.no, look1, _, rfl, b, C 14, dy, _, _, rfl, hb, T.cls, T.no, look1, 1, by decide, g, rfl, hv, hl, fun H' sm => q H' sm⟩
      | some g =>
        obtain ⟨a, dx, u, rfl, ha, hu⟩ := ta
        cases g2 with
        | none =>
          obtain ⟨b, dy, rfl, hb⟩ := th
          exact ⟨_, rfl, a, C 14, dx, _, _, rfl, ha, T.cls, T.no, look1, _, rfl, b, C 14, dy, _, _, rfl, hb, T.cls, T.no, look1, 0, by decide, g, false, hu, hu.at_.1, tl, .inl ⟨.non, rfl⟩, fun H' sm => q H' sm⟩
        | some g' =>
          obtain ⟨b, dy, v, rfl, hb, hv⟩ := th
          refine ⟨_, rfl, a, C 14, dx, _, _, rfl, ha, T.cls, T.no, look1, _, rfl, b, C 14, dy, _, _, rfl, hb, T.cls, T.no, look1, 0, by decide, g, _, hu, hu.at_.1, tl, .inr ⟨_, hv, hl, rfl⟩, fun H' sm => ?_⟩
          rw [nf_bool]
          exact q H' sm

abbrev sQNot : Stmt := cb 48 2
theorem scQNot : FnScope ["self", "other"] ["self", "other"] (defScope sQNot) := ⟨rfl, rfl, rfl, by decide +kernel, rfl, by decide +kernel, by decide +kernel⟩
theorem ok_QNot {f : Addr} {fd : FuncData} (F : Fun K "__eq__" "Not.__eq__" sQNot f fd) (N : NamA mg C CA) (k : KA K C CA) {n D : Nat} (T : C1 K (C 15) "_address") (M : ∀ i, 8 ≤ i → i < 18 → EqAtA P w K mg base C n i D (fe i) (fde i)) : FnOk P w K mg base CX0 (n + 1) f fd ["self", "other"] (spEqA C 15 (D + 1)) := by
  refine F.ok scQNot (fun vs H Q E h => ?_) (fun cdv A outer s H vs Q E hr h => ?_)
  · obtain ⟨a, x, y, r, rfl, _⟩ := h
    rfl
  · obtain ⟨t, x, y, r, rfl, ta, tc, tl, tw, td, ot, q⟩ := h
    obtain ⟨ty, hty, _, key⟩ := ot.ty k
    refine ⟨_, pss_one (by exact (ps_ret (pe_and (pe_callB call_isi (by rfl) N.isM (by decide +kernel) (pa_cons (pv 1) (pa_cons (pe_glob (v := .ref (C 15)) rfl N.not rfl) pa_nil))) (pe_one (pe_cmpR (op_a k M hr) (pe_fld (pv 0) rfl) (pe_fld (pv 1) rfl) (nomark _)))))), ?_⟩
    rcases key 15 (by decide) with ⟨no, nr⟩ | ⟨yes, h, th, hc, hl, rfl⟩
    · refine ⟨_, rfl, _, _, _, _, _, rfl, .own (C 15), hty, no, _, rfl, iteF ?_⟩
      rw [nr tc.symm] at q
      exact q H (fun _ _ e => e)
    · refine ⟨_, rfl, _, _, _, _, _, rfl, .own (C 15), hty, yes, _, rfl, iteT ?_⟩
      obtain ⟨g1, rfl⟩ := LA.A.c15 tc
      obtain ⟨g2, rfl⟩ := LA.A.c15 hc
      obtain ⟨a, dx, u, rfl, ha, hu⟩ := ta
      obtain ⟨b, dy, v, rfl, hb, hv⟩ := th
      have d2 : 1 + g1.dep ≤ D + 1 := td
      refine ⟨_, rfl, a, C 15, dx, _, _, rfl, ha, T.cls, T.no, look1, _, rfl, b, C 15, dy, _, _, rfl, hb, T.cls, T.no, look1, g1, _, hu, tl, tw.1, by omega, .inr ⟨_, hv, hl, rfl⟩, fun H' sm => ?_⟩
      rw [nf_bool]
      exact q H' sm

abbrev sQRange : Stmt := cb 49 3
theorem scQRange : FnScope ["self", "other"] ["self", "other"] (defScope sQRange) := ⟨rfl, rfl, rfl, by decide +kernel, rfl, by decide +kernel, by decide +kernel⟩
theorem ok_QRange {f : Addr} {fd : FuncData} (F : Fun K "__eq__" "Range.__eq__" sQRange f fd) (N : NamA mg C CA) (k : KA K C CA) {n D : Nat} (c : Cls K (C 16)) (n1 : NoAttr K (C 16) "_start") (n2 : NoAttr K (C 16) "_stop") (M : ∀ i, 8 ≤ i → i < 18 → EqAtA P w K mg base C n i D (fe i) (fde i)) : FnOk P w K mg base CX0 (n + 1) f fd ["self", "other"] (spEqA C 16 (D + 1)) := by
  refine F.ok scQRange (fun vs H Q E h => ?_) (fun cdv A outer s H vs Q E hr h => ?_)
  · obtain ⟨a, x, y, r, rfl, _⟩ := h
    rfl
  · obtain ⟨t, x, y, r, rfl, ta, tc, tl, tw, td, ot, q⟩ := h
    obtain ⟨ty, hty, _, key⟩ := ot.ty k
    refine ⟨_, pss_one (by exact (ps_ret (pe_and (pe_callB call_isi (by rfl) N.isM (by decide +kernel) (pa_cons (pv 1) (pa_cons (pe_glob (v := .ref (C 16)) rfl N.range rfl) pa_nil))) (pe_and (pe_cmpR (op_a k M hr) (pe_fld (pv 0) rfl) (pe_fld (pv 1) rfl) (nomark _)) (pe_one (pe_cmpR (op_a k M hr) (pe_fld (pv 0) rfl) (pe_fld (pv 1) rfl) (nomark _))))))), ?_⟩
    rcases key 16 (by decide) with ⟨no, nr⟩ | ⟨yes, h, th, hc, hl, rfl⟩
    · refine ⟨_, rfl, _, _, _, _, _, rfl, .own (C 16), hty, no, _, rfl, iteF ?_⟩
      rw [nr tc.symm] at q
      exact q H (fun _ _ e => e)
    · refine ⟨_, rfl, _, _, _, _, _, rfl, .own (C 16), hty, yes, _, rfl, iteT ?_⟩
      obtain ⟨a1, a2, rfl⟩ := LA.A.c16 tc
      obtain ⟨b1, b2, rfl⟩ := LA.A.c16 hc
      obtain ⟨a, dx, u1, u2, rfl, ha, hu1, hu2⟩ := ta
      obtain ⟨b, dy, v1, v2, rfl, hb, hv1, hv2⟩ := th
      have d2 : 1 + max a1.dep a2.dep ≤ D + 1 := td
      have tl2 := Bool.and_eq_true_iff.mp (show (a1.low && a2.low) = true from tl)
      have hl2 := Bool.and_eq_true_iff.mp (show (b1.low && b2.low) = true from hl)
      have q : ∀ H', Same H H' → Q (.bl (aeq a1 b1 && aeq a2 b2)) H' := q
      generalize e1 : aeq a1 b1 = r1 at q
      generalize e2 : aeq a2 b2 = r2 at q
      refine ⟨_, rfl, a, C 16, dx, _, _, rfl, ha, c, n1, lk2a, _, rfl, b, C 16, dy, _, _, rfl, hb, c, n1, lk2a, a1, r1, hu1, tl2.1, tw.1, by omega, .inr ⟨_, hv1, hl2.1, e1.symm⟩, fun H1 m1 => ⟨_, rfl, ?_⟩⟩
      rw [nf_bool]
      cases r1 with
      | false => exact iteF (q H1 m1)
      | true =>
        refine iteT ⟨_, rfl, a, C 16, dx, _, _, rfl, m1 _ _ ha, c, n2, (by first | rfl | simp), _, rfl, b, C 16, dy, _, _, rfl, m1 _ _ hb, c, n2, (by first | rfl | simp), a2, r2, hu2.same m1, tl2.2, tw.2.1, by omega, .inr ⟨_, hv2.same m1, hl2.2, e2.symm⟩, fun H2 m2 => ?_⟩
        rw [nf_bool]
        exact q H2 (m1.trans m2)

end
end LA
end
section
set_option Elab.async false
set_option linter.all false
set_option maxRecDepth 100000
set_option maxHeartbeats 4100000
namespace XL
open PySem PySem.Spec PyProof.Rows L2 LamX XK
/-! ### a list comprehension whose test calls with what its list holds: the test may lean on the def's own cells -/
section
variable {X : Cx}
/-- as tLc, the test's reading hangs on the def's slots -/
def tLcI (wi : TI) (g : TG) (tt : L2.St → TT) (te : TE) (vs : List Nat) : TE := fun σ H Q => tLc wi g (tt σ) te vs σ H Q
theorem pe_lcI {elt tg iter : Expr} {ifs : List Expr} {scope : Scope} {own : List (Str × Nat)} {pos : Pos} {wi : TI} {g : TG} {tt : L2.St → TT} {te : TE} (calm : X.calm = true) (dist : X.N.Nodup) (hi : PI X tg iter wi) (ok : BlkOk X.N X.env.scope scope own)
    (hg : ∀ (s : Shared) (H : Hp) (C : Addr) (cl : List (Str × Addr)) (fp : List Addr), PG (X.blk s H scope (compEnvC scope cl C X.env) fp) tg g)
    (ht : ∀ (pins : List (Addr × Obj)) (σ : L2.St) (s : Shared) (H : Hp) (C : Addr) (cl : List (Str × Addr)) (fp : List Addr), Inv X pins σ H s → (∀ y c, X.env.cells.lookup y = some c → c ∉ fp) → PTs (X.blk s H scope (compEnvC scope cl C X.env) fp) ifs (tt σ))
    (he : ∀ (s : Shared) (H : Hp) (C : Addr) (cl : List (Str × Addr)) (fp : List Addr), PE (X.blk s H scope (compEnvC scope cl C X.env) fp) elt te) (hs : ∀ x, foldedSetIterable iter X.env x = pure x := by intro _; rfl) :
    PE X (.ListComp elt [⟨tg, iter, ifs, 0⟩] scope pos) (tLcI wi g tt te (own.map (·.2))) := by
  refine ⟨fun pins s σ H Q I want => ?_⟩
  rw [eval_ListComp]
  have caught : ∀ y ∈ scope.names, y.2 = .free → ∃ c, X.env.cells.lookup y.1 = some c := fun y hy e => (ok.free y hy e).elim (fun k => I.ok.has _ (.inl k)) fun k => I.ok.has _ (.inr k)
  refine wpAny_comprehension_free (use := none) rfl hs (closure_ok caught) ok.kind (fun y hy e => by rw [ok.uniq y hy, e]) (thn (hi.run pins s σ H _ I want) fun xv s1 hx => thn hx fun itv s2 h2 => ?_)
  obtain ⟨it, fp, tn, J, H2, rfl, I2, T, st2, f2, rest⟩ := h2
  refine wpAny_newObj_type (newEnv_comp ?_) (by show 0 ≤ sizeLine; decide)
  obtain ⟨D, hD⟩ : ∃ D, D = s2.heap.objs.size := ⟨_, rfl⟩
  have dNone : H2 D = none := I2.hok.fresh (Nat.le_of_eq hD.symm)
  obtain ⟨W, ⟨m0, w0⟩, turn⟩ := rest D dNone
  rw [← hD]
  obtain ⟨s3, hs3⟩ : ∃ s3 : Shared, s3 = { s2 with heap := s2.heap.push { cls := .type "list", data := .seq ([] : List Value).toArray } } := ⟨_, rfl⟩
  have I3 : Inv X pins σ (upd H2 D (.lst [])) s3 := by
    subst hs3
    exact I2.laid (t' := s2.toks) (fun b o e => Heap.get?_push_of_some _ e) (Nat.le_of_eq hD.symm) ⟨Nat.zero_le _, [], 0, .nil, by rw [hD]; exact Heap.get?_push_size _ rfl⟩
  have heap3 : s3.heap = s2.heap.push { cls := .type "list", data := .seq ([] : List Value).toArray } := by rw [hs3]
  have f3 : ∀ b ∈ fp, FpOk X pins (upd H2 D (.lst [])) b ∧ b < s3.heap.objs.size := fun b hb => by
    obtain ⟨o, e, _⟩ := T.obj _ _ st2 b hb
    have lt := Heap.lt_size e
    refine ⟨⟨?_, (f2 b hb).2⟩, by rw [heap3, Heap.size_push]; exact Nat.lt_succ_of_lt lt⟩
    rw [upd_ne (by rw [hD]; exact Nat.ne_of_lt lt)]
    exact (f2 b hb).1
  have st3 : tn 0 s3.heap := T.keep _ _ _ st2 fun b _ o e => by rw [heap3]; exact Heap.get?_push_of_some _ e
  have cellsOut : ∀ y c, X.env.cells.lookup y = some c → c ∉ fp := fun y c e z => (f2 c z).2.2.2.2.1 y c e rfl
  have I4 := block_start I3 ok dist f3
  have pg := hg s3 (upd H2 D (.lst [])) s3.heap.objs.size (cellsFrom (s3.heap.objs.size + 1) scope.names (cloFrom X.env.cells scope.names [])) fp
  have pt := ht pins σ s3 (upd H2 D (.lst [])) s3.heap.objs.size (cellsFrom (s3.heap.objs.size + 1) scope.names (cloFrom X.env.cells scope.names [])) fp I3 cellsOut
  have pe := he s3 (upd H2 D (.lst [])) s3.heap.objs.size (cellsFrom (s3.heap.objs.size + 1) scope.names (cloFrom X.env.cells scope.names [])) fp
  have e3 : ({ s2 with heap := s2.heap.push { cls := .type "list", data := .seq ([] : List Value).toArray } } : Shared) = s3 := hs3.symm
  rw [e3]
  show codeAny _ _ (.compStart (.ListComp elt [⟨tg, iter, ifs, 0⟩] scope pos) 0 (.ref it) (.ref D) (compEnvC scope (cellsFrom (s3.heap.objs.size + 1) scope.names (cloFrom X.env.cells scope.names [])) s3.heap.objs.size X.env)) (compPost (model X.prog X.w) X.A X.xe none (EP X pins σ Q) (.ref D) s3.heap.objs.size) { s3 with heap := pushCells (s3.heap.push { cls := .type "dict", data := .dict #[] }) scope.names }
  generalize hce : compEnvC scope (cellsFrom (s3.heap.objs.size + 1) scope.names (cloFrom X.env.cells scope.names [])) s3.heap.objs.size X.env = ce at I4 pg pt pe ⊢
  have cL : ce.locals = s3.heap.objs.size := by subst hce; rfl
  have nfp : ∀ b ∈ fp, (upd H2 D (.lst [])) b = none := fun b hb => (f3 b hb).1.1
  generalize hH3 : upd H2 D (.lst []) = H3 at I3 I4 pg pt pe w0 nfp f3
  generalize hs4 : ({ s3 with heap := pushCells (s3.heap.push { cls := .type "dict", data := .dict #[] }) scope.names } : Shared) = s4 at I4 ⊢
  have st4 : tn 0 s4.heap := T.keep _ _ _ st3 fun b _ o e => by rw [← hs4]; exact pushCells_keeps _ _ _ _ (Heap.get?_push_of_some _ e)
  have stat : ∀ {σ' : L2.St} {H' : Hp} {s' : Shared}, Inv (X.blk s3 H3 scope ce fp) [] σ' H' s' → (∀ b ∈ fp, H' b = none) → ∀ b ∈ fp, FpOk (X.blk s3 H3 scope ce fp) [] H' b := fun {σ' H' s'} K' hn b hb =>
    ⟨hn b hb, (K'.ok.exf b hb).1, K'.ok.exfs b hb, .inl hb, fun x c e => (K'.ok.exf b hb).2 x c e, fun p hp => absurd (show p ∈ ([] : List (Addr × Obj)) ++ [] from hp) (by simp)⟩
  let At : Nat → Shared → Prop := fun n s' => ∃ i H', Inv (X.blk s3 H3 scope ce fp) [] (wipe σ (own.map (·.2))) H' s' ∧ tn i s'.heap ∧ (∀ b ∈ fp, H' b = none) ∧ W i n H'
  have loop : codeAny (model X.prog X.w) X.A (.compLoop (.ListComp elt [⟨tg, iter, ifs, 0⟩] scope pos) 0 (.ref it) (.ref D) ce) (compPost (model X.prog X.w) X.A X.xe none (EP X pins σ Q) (.ref D) s3.heap.objs.size) s4 := by
    refine compLoop_any At ?_ m0 ⟨0, H3, I4, st4, nfp, w0⟩
    rintro n s5 ⟨i, H5, I5, st5, n5, w5⟩
    cases turn i n H5 w5 with
    | inl over =>
      obtain ⟨stop, answer⟩ := over
      refine thnF (T.done (X.blk s3 H3 scope ce fp) rfl rfl rfl calm i [] s5 _ H5 (fun _ _ => False) I5 (stat I5 n5) st5 stop) fun r s6 ⟨hr, I6⟩ => ?_
      subst hr
      have I7 : Inv X pins σ H5 s6 := I3.call' (ch := fp) I6.os I6.base I6.hok I6.bare fun b hb => ⟨(f3 b hb).1.2.2.2.1, (f3 b hb).1.2.1, (f3 b hb).1.2.2.2.2.1, (f3 b hb).1.2.2.2.2.2⟩
      have gone : H5 s3.heap.objs.size = none := by
        have z : H5 ce.locals = none := I6.free
        rw [cL] at z
        exact z
      obtain ⟨m, hn, _⟩ := I6.loc
      have hn : s6.heap.Ns ce.locals m := hn
      rw [cL] at hn
      refine ⟨m, hn, fun h'' sb => ?_⟩
      obtain ⟨g0, g1, g2, g3, g4, g5⟩ := I3.fpOk (Nat.le_refl _) gone
      exact ⟨.ref D, H5, I7.turned (t' := s6.toks) (fun b o hb e => (sb.2 b hb).trans e) g0 g1 g3 g4 g5, rfl, answer⟩
    | inr more =>
      obtain ⟨go, Nx, hNx, step⟩ := more
      refine thnF (T.item (X.blk s3 H3 scope ce fp) rfl rfl rfl calm i [] s5 _ H5 (fun _ _ => False) I5 (stat I5 n5) st5 go) fun r s6 ⟨u, hr, h6⟩ => ?_
      subst hr
      refine thnF h6 fun _ s7 ⟨x, H7, I7, r7, y7, st7, n7⟩ => ?_
      have P7 := I7.pinned (stat I7 n7) (T.obj _ _ st7)
      refine thnF (pg.run _ s7 _ H7 x u _ P7 r7 (step x H7 y7)) fun _ s8 ⟨σ8, H8, I8, hw8, q8⟩ => ?_
      refine thnF (pt.run _ s8 σ8 H8 _ I8 q8) fun b s9 ⟨H9, I9, q9⟩ => ?_
      have fin : ∀ {s' : Shared} {H' : Hp}, Inv (X.blk s3 H3 scope ce fp) ([] ++ pinsAt fp s7.heap) σ8 H' s' → Nx H' → ∃ m, m < n ∧ At m s' := fun {s' H'} K' nx => by
        obtain ⟨m', lt, w'⟩ := hNx H' nx
        have still : ∀ b ∈ fp, ∀ o, s7.heap.get? b = some o → s'.heap.get? b = some o ∧ H' b = none := fun b hb o e => by
          have z := K'.pin (b, o) (List.mem_append_right _ (List.mem_append_right _ (mem_pinsAt hb e)))
          exact ⟨z.1, z.2.1⟩
        have len : (wipe σ (own.map (·.2))).length = σ8.length := by rw [← hw8, wipe_length]
        refine ⟨m', lt, i + 1, H', (K'.unpinned (pins := [])).weak len (fun j v e => ?_), T.keep _ _ _ st7 fun b hb o e => (still b hb o e).1, fun b hb => ?_, w'⟩
        · rw [← hw8] at e
          exact (wipe_some e).1
        · obtain ⟨o, e, _⟩ := T.obj _ _ st7 b hb
          exact (still b hb o e).2
      cases b with
      | false =>
        simp only [Bool.false_eq_true, if_false] at q9 ⊢
        exact fin I9 q9
      | true =>
        simp only [if_true] at q9 ⊢
        refine thnF (pe.run _ s9 σ8 H9 _ I9 q9) fun z s10 ⟨yv, H10, I10, r10, acc, hD10, hz10, nx⟩ => ?_
        exact app_ok (X := X.blk s3 H3 scope ce fp) I10 hD10 hz10 r10 fun s11 I11 => fin I11 nx
  exact codeAny_compStart_list loop (T.self X.A 0 _ _ _ st4 loop)
/-- the cells in the block of such a comprehension -/
theorem Caps.blk {pins pinsB : List (Addr × Obj)} {σ σB : L2.St} {s sB : Shared} {H HB : Hp} {scope : Scope} {ce : Env} {fp : List Addr} (I : Inv X pins σ H s) (out : ∀ y c, X.env.cells.lookup y = some c → c ∉ fp) (B : Inv (X.blk s H scope ce fp) pinsB σB HB sB) : Caps X σ HB sB.heap :=
  (Caps.of I).go B.base out
end
end XL
end
section
set_option Elab.async false
set_option linter.all false
set_option maxRecDepth 100000
set_option maxHeartbeats 4100000
namespace XL
open PySem PySem.Spec PyProof.Rows L2 LamX XK
/-- x(lambda: body) -/
theorem pe_goL {X : Cx} {T : List (Addr × Str)} {c P : Addr} (mk : Maker X T c P) {x a : Str} {g : Addr} {Ng : List Str} {sg : Scope} {cdv : Value} {bg : List Stmt} {TT : (XK → Hp → VK → Prop) → Hp → VK → Prop} {params : Arguments} {body : Expr} {scope : Scope} {k : Nat} {t : XK → TE} {p lpos pos : Pos}
    (G : Taker X x a g Ng sg cdv bg TT) (room : Room (k + 2) X.A) (hg : Gl X x) (L : LamS X.env.scope scope) (nodef : defaultsOf params X.env = ([], []))
    (noargs : ∀ (q : Str) (cl : List (Str × Addr)) (pm cv ctv : Value), bindArgs (PySem.W.kla_fn "<lambda>" q params body scope cl pm cv ctv) ⟨[], []⟩ = pure [])
    (does : ∀ (A : Around) (outer : List Env) (s : Shared) (H : Hp) (E : XK) (f c' : Addr), Room k (A.deeper (lamEnv X scope s.heap.objs.size f c')) → PE (lamCx X A outer s H E scope f c') body (t E))
    (hdb : (x == ("__debug__" : Str)) = false := by decide) (hd : (a == ("__debug__" : Str)) = false := by decide) (hcd : (a == ("__classdict__" : Str)) = false := by decide) :
    PE X (.Call (.Name x p) [.Lambda params body scope lpos] [] pos) (tLam T TT t) := by
  refine ⟨fun pins s σ H Q I want => ?_⟩
  obtain ⟨hT, h⟩ := want
  exact (pe_go (Kin.refl X) (M := fun σ => σ) (fun _ _ _ _ I => Caps.of I) G L rfl room (fun cl pm cv ctv => noargs _ cl pm cv ctv) does (pa_cons (pe_mk mk L nodef) pa_nil) hg hdb hd hcd).run pins s σ H Q I ⟨hT, fun f H1 e1 T1 nf il => ⟨f, rfl, il, h H1 e1 T1⟩⟩
end XL
end
section
set_option Elab.async false
set_option linter.all false
set_option maxRecDepth 100000
set_option maxHeartbeats 4100000
namespace LA
open PySem PySem.Spec PyProof.Rows L2 XS XT XK XL LamX XO DnX B0X RfX
/-- isinstance(e, c) in an except suite, e an own error with its dict -/
def rIsS (K : PySem.W.Frag) (D a : Addr) : List V → Hp → VK → Prop := fun xs H Q => ∃ (c : V) (cv : Value) (b : Bool) (dd : Addr) (fs : List (Str × V)), xs = [.ref a, c] ∧ ClsV c cv ∧ H dd = some (.xd fs) ∧ PySem.W.kitOne K (.ref D) cv = some b ∧ Q (.bl b) H
theorem call_isS {X : Cx} {a D dd0 : Addr} {oe : Obj} {pn : List (Addr × Obj)} (T : XT X.K D) (hz : Zc (.ref D) (some dd0) oe) (hf : ∃ vs, oe.data = .fields vs) :
    CallR (X.suite a ((a, oe) :: pn)) (.builtin "isinstance") (fun xs H Q => ∃ (c : V) (cv : Value) (b : Bool) (fs : List (Str × V)), xs = [.ref a, c] ∧ ClsV c cv ∧ H dd0 = some (.xd fs) ∧ PySem.W.kitOne X.K (.ref D) cv = some b ∧ Q (.bl b) H) := by
  intro pins s σ H xs us Q I r h
  obtain ⟨c, cv, b, fs, rfl, k, ed, e, q⟩ := h
  obtain ⟨u1, u2, rfl, r1, r2⟩ := vals2 r
  have e2 := k.eq r2
  subst e2
  cases (show u1 = Value.ref a from r1)
  obtain ⟨ho, _⟩ := I.pin (a, oe) (List.mem_append.mpr (.inl List.mem_cons_self))
  obtain ⟨vs, hv⟩ := hf
  obtain ⟨mA, hns, _⟩ := (show ObjOk X.prog X.w H s.heap dd0 (.xd fs) from I.hok dd0 _ ed)
  obtain ⟨od, hod, _⟩ := lookIn_ns hns
  have J : PySem.W.InstAt s.heap a oe D (some od) := ⟨ho, hz.1, by unfold PySem.W.notCls; rw [hv] <;> rfl, by rw [hz.2]; exact hod⟩
  have hc : (PySem.W.clsIn X.K D).isSome = true := by
    obtain ⟨cd, h1, _⟩ := T.opn
    rw [h1]
    rfl
  exact PySem.W.kia_one (PySem.W.kitx_exc hc T.ga T.gg T.exC T.ac T.gn T.tk T.mo) I.kIn J e (fun z => nomatch z) fun tk => ⟨.bl b, H, I.tok tk, rfl, q⟩
/-- what caught hands back: what the call gives, or the error as a tuple -/
def TCau (D : Addr) : (XK → Hp → VK → Prop) → Hp → VK → Prop := fun tl H Q =>
  tl (fun cls d H' => cls = .ref D ∧ ∃ (dd : Addr) (fs : List (Str × V)) (z : Str), d = some dd ∧ H' dd = some (.xd fs) ∧ fs.lookup ("argument" : Str) = some (V.str z) ∧
    ∀ (p : Addr) (H2 : Hp), H' p = none → Same H' H2 → H2 p = some (.tup [.str "wrong", .str z, .bl true]) → Q (.ref p) H2) H Q
abbrev sCau : Stmt := top 76
abbrev nCau : List Str := ["_law_call", "e"]
theorem scCau : FnScope nCau ["_law_call"] (defScope sCau) := ⟨rfl, rfl, rfl, by decide +kernel, rfl, by decide +kernel, by decide +kernel⟩
section
variable {X : Cx} {D : Addr}
theorem gets_cau {g : Addr} {cdg : Value} (T : XT X.K D) (no : PySem.W.findIn X.K (.ref D) "argument" = some none) (mD : X.mg "InvalidAddress" = some (.ref D)) (isM : X.mg "isinstance" = none) (mV : X.mg "ValueError" = none)
    (ex : PySem.W.exmOne X.K (.ref D) (.ref D) = some true) (kv : PySem.W.kitOne X.K (.ref D) (.type "ValueError") = some true) :
    Gets X nCau "_law_caught" (defScope sCau) g cdg (defBody sCau) "_law_call" (TCau D) := by
  intro LP f s H Q tl act lp h
  have fx : XfC X.K D := ⟨T.ga, T.gg, T.exC, T.hd⟩
  refine ⟨_, pss_one (ps_try_as (i := 1) (c := .ref D) (X := (cxOf C8.CX0 X.prog X.w X.K X.mg X.base nCau "_law_caught" (defScope sCau) g cdg X.A X.stack s H C8.E0).nox)
      (tb := fun W D' σ H => ∃ Ech : XK, (∀ cls d σ' H', Ech cls d H' → W cls d σ' H') ∧ σ[0]? = some (some (.ref f)) ∧ LP H f ∧ tl Ech H (fun v H' => D'.rt v H'))
      (ts := fun a cls d => fun D' σ H => ∃ (dd : Addr) (fs : List (Str × V)) (z : Str), cls = .ref D ∧ d = some dd ∧ (σ.length = 2 → σ[1]? = some (some (.ref a))) ∧ H dd = some (.xd fs) ∧ fs.lookup ("argument" : Str) = some (V.str z) ∧ ∀ p, H p = none → D'.rt (.ref p) (upd H p (.tup [.str "wrong", .str z, .bl true])))
      rfl rfl scCau.nd rfl rfl ⟨by rfl, by decide, .inl mD⟩ L2.takes0 (fun W pn xe tk _ => ?_) (fun a oe cls d pn hz hf => ?_)), ?_⟩
  · refine ⟨fun pins s' σ H' D' I h' => ?_⟩
    obtain ⟨Ech, hW, h1, h2, h3⟩ := h'
    exact PSs.run (pss_one (ps_ret (act W pn xe Ech _ _ tk hW))) pins s' σ H' D' I ⟨h1, h2, h3⟩
  · refine ⟨fun pins s' σ H' D' I h' => ?_⟩
    obtain ⟨dd, fs, z, rfl, rfl, se, hdd, hl, go⟩ := h'
    have se := se I.len
    refine PSs.run (pss_one (ps_ret (pe_tup (pa_cons pe_str (pa_cons (pe_xf (X := (cxOf C8.CX0 X.prog X.w X.K X.mg X.base nCau "_law_caught" (defScope sCau) g cdg X.A X.stack s H C8.E0).nox) (pn := pn) fx no hz hf (pv 1)) (pa_cons (pe_callB (call_isS (X := (cxOf C8.CX0 X.prog X.w X.K X.mg X.base nCau "_law_caught" (defScope sCau) g cdg X.A X.stack s H C8.E0).nox) (pn := pn) T hz hf) (by rfl) isM (by decide +kernel) (pa_cons (pv 1) (pa_cons (pe_bltn (v := .ty "ValueError") (by rfl) mV (by decide +kernel) rfl) pa_nil))) pa_nil)))))) pins s' σ H' D' I ?_
    refine ⟨_, se, rfl, rfl, dd, fs, _, rfl, hdd, hl, _, se, _, _, true, fs, rfl, .ty _, hdd, kv, (by show 3 ≤ sizeLine; decide), fun p np => go p np⟩
  · refine ⟨fun cls d H' => cls = .ref D ∧ ∃ (dd : Addr) (fs : List (Str × V)) (z : Str), d = some dd ∧ H' dd = some (.xd fs) ∧ fs.lookup ("argument" : Str) = some (V.str z) ∧
      ∀ (p : Addr) (H2 : Hp), H' p = none → Same H' H2 → H2 p = some (.tup [.str "wrong", .str z, .bl true]) → Q (.ref p) H2, fun cls d σ' H' e => ?_, rfl, lp, h⟩
    obtain ⟨rfl, dd, fs, z, rfl, hdd, hl, go⟩ := e
    refine ⟨true, ex, fun _ a _ => ⟨dd, fs, z, rfl, rfl, fun len => ?_, hdd, hl, fun p np => go p _ np (same_upd np) upd_same⟩, fun z => nomatch z⟩
    rw [List.length_set] at len
    exact List.getElem?_set_self (by omega)
/-- caught, as the law knows it -/
structure CauAt (K : PySem.W.Frag) (mg : Str → Option Value) (D g : Addr) (fd : FuncData) : Prop where
  F : Fun K "_law_caught" "_law_caught" sCau g fd
  m : mg "_law_caught" = some (.ref g)
  k : PySem.W.keepIn K (.ref g) = true
  b : Binds K fd ["_law_call"] []
  T : XT K D
  no : PySem.W.findIn K (.ref D) "argument" = some none
  mD : mg "InvalidAddress" = some (.ref D)
  isM : mg "isinstance" = none
  mV : mg "ValueError" = none
  ex : PySem.W.exmOne K (.ref D) (.ref D) = some true
  kv : PySem.W.kitOne K (.ref D) (.type "ValueError") = some true
theorem CauAt.taker {g : Addr} {fd : FuncData} (R : CauAt X.K X.mg D g fd) : ∃ cdv, Taker X "_law_caught" "_law_call" g nCau (defScope sCau) cdv (defBody sCau) (TCau D) := by
  obtain ⟨oc, od, kV, doc, pm, an, cdv, ct, osl, e, lk, hcd⟩ := R.F.ex
  have hb := R.b
  rw [e] at hb lk
  exact ⟨cdv, R.m, R.k, ⟨_, _, _, _, _, _, _, _, _, _, lk, hb⟩, hcd, scCau, rfl, .inl rfl, gets_cau R.T R.no R.mD R.isM R.mV R.ex R.kv⟩
end
/-- a def of the law whose code object is told -/
structure FunC (K : PySem.W.Frag) (x qual : Str) (st : Stmt) (f : Addr) (fd : FuncData) (c : Addr) : Prop where
  ex : ∃ (oc : Value) (od : Option Addr) (kV doc pm : Value) (an : Option Addr) (ct : Value) (osl : Array (Option Value)),
    fd = PySem.W.fnOf x qual (defArgs st) (defBody st) (defScope st) .none kV doc pm an (.ref c) ct ∧ K.lookup f = some ⟨oc, od, .func fd, osl⟩ ∧ PySem.W.codeIn K (.ref c) qual = true
/-- the name under which the def's lambdas go -/
def lamQ (x : Str) (st : Stmt) : Str := (envOfC x (defScope st) 0 0 .none).qual ++ "<lambda>"
section
variable {P : Program} {w : World} {K : PySem.W.Frag} {mg : Str → Option Value} {base : Heap} {CX : CXT} {k : Nat} {f c : Addr} {fd : FuncData} {N ps : List Str} {sp : Sp}
/-- such a def, called where no repr is under way -/
theorem FunC.atG {x qual : Str} {st : Stmt} (F : FunC K x qual st f fd c) (S : FnScope N ps (defScope st)) (len : ∀ vs H Q E, sp vs H Q E → vs.length = ps.length)
    (body : ∀ (A : Around) (outer : List Env) (s : Shared) (H : Hp) (vs : List V) (Q : VK) (E : XK), A.guards = some [] → Room k (A.deeper (envOfC qual (defScope st) s.heap.objs.size f (.ref c))) → sp vs H Q E →
      ∃ t, PSs (cxOf CX P w K mg base N qual (defScope st) f (.ref c) A outer s H E).nox (defBody st) t ∧ t { nx := fun _ H' => Q .non H', rt := Q } (start N vs) H) :
    AtG P w K mg base CX (k + 1) f fd ps sp := by
  obtain ⟨oc, od, kV, doc, pm, an, ct, osl, rfl, lk, hcd⟩ := F.ex
  refine ⟨len, fun A outer s H args us vs Q E quiet room env bind rel want => ?_⟩
  have count := len _ _ _ _ want
  have inn : K.In s.heap := env.mod.kin.keeps fun b o e => (env.bs b o e).1
  have lim : s.heap.NoLimit := env.mod.nolimit.keeps fun b o e => (env.bs b o e).1
  have kinds : ∀ y ∈ ps.zip us, (defScope st).names.lookup y.1 = some .local ∨ ((defScope st).names.lookup y.1 = some .cell ∧ ((cellsFrom (s.heap.objs.size + 1) (defScope st).names []).lookup y.1).isSome = true) := by
    intro y hy
    rcases S.par y.1 (List.of_mem_zip hy).1 with q | q
    · exact .inl q
    · exact .inr ⟨q, PySem.W.cellsFrom_some _ _ _ (.inl q)⟩
  refine codeAny_call_function room.depth (inn _ _ lk) rfl S.co S.gen rfl (PySem.W.codeRec_of inn hcd) (bind _ _ _ _ ?_)
  refine wpAny_newFunctionEnv_cells S.kind kinds fun en hen s1 entered => ?_
  subst hen
  refine ⟨lim.keeps entered.toInCall.keep, codeAny_func ?_⟩
  obtain ⟨t, der, rd⟩ := body A outer s H vs Q E quiet (room.deeper _) want
  have I0 : Inv (cxOf CX P w K mg base N qual (defScope st) f (.ref c) A outer s H E) [] (start N vs) H s1 := inv_start S room.hd env count rel entered
  refine wpAny_mono (der.nox.run [] s1 (start N vs) H _ I0 rd) (fun flow s' res => ?_) fun _ _ res => res
  cases flow with
  | ret u =>
    obtain ⟨v, σ', H', J, rv, q⟩ := res
    exact ⟨v, H', J.os, J.bare, J.base, J.hok, rv, q⟩
  | next =>
    obtain ⟨σ', H', J, q⟩ := res
    exact ⟨V.non, H', J.os, J.bare, J.base, J.hok, rfl, q⟩
  | brk =>
    obtain ⟨_, _, _, no⟩ := res
    exact no.elim
  | cont =>
    obtain ⟨_, _, _, no⟩ := res
    exact no.elim
end
end LA
end
section
set_option Elab.async false
set_option linter.all false
set_option maxRecDepth 100000
set_option maxHeartbeats 4100000
namespace LA
open PySem L2 XS XT XK XL LamX XO DnX B0X RfX
abbrev sMSp : Stmt := top 70
/-- the law's tuple of a plain address, none within another -/
def SA (H : Hp) : A → V → Prop
  | .any, v => ∃ p, v = .ref p ∧ H p = some (.tup [.str "any"])
  | .last, v => ∃ p, v = .ref p ∧ H p = some (.tup [.str "last"])
  | .changed, v => ∃ p, v = .ref p ∧ H p = some (.tup [.str "changed"])
  | .number n, v => 1 ≤ n ∧ ∃ p, v = .ref p ∧ H p = some (.tup [.str "number", .int n])
  | .each s t, v => (1 ≤ s ∧ 1 ≤ t) ∧ ∃ p, v = .ref p ∧ H p = some (.tup [.str "each", .int s, .int t])
  | .if_ g, v => (g.wf ∧ g.dep ≤ 2 ∧ g.lv ≤ 2) ∧ ∃ p u, v = .ref p ∧ H p = some (.tup [.str "if", u]) ∧ GA H g u
  | .kept none, v => ∃ p, v = .ref p ∧ H p = some (.tup [.str "kept", .non])
  | .kept (some g), v => (g.wf ∧ g.dep ≤ 2 ∧ g.lv ≤ 2) ∧ ∃ p u, v = .ref p ∧ H p = some (.tup [.str "kept", u]) ∧ GA H g u
  | _, _ => False
theorem SA.keep {H H' : Hp} (k : ∀ a xs, H a = some (.tup xs) → H' a = some (.tup xs)) : ∀ {a : A} {v : V}, SA H a v → SA H' a v
  | .any, v, ⟨p, e, h⟩ => ⟨p, e, k _ _ h⟩
  | .last, v, ⟨p, e, h⟩ => ⟨p, e, k _ _ h⟩
  | .changed, v, ⟨p, e, h⟩ => ⟨p, e, k _ _ h⟩
  | .number n, v, ⟨o, p, e, h⟩ => ⟨o, p, e, k _ _ h⟩
  | .each _ _, v, ⟨o, p, e, h⟩ => ⟨o, p, e, k _ _ h⟩
  | .if_ _, v, ⟨o, p, u, e, h, g⟩ => ⟨o, p, u, e, k _ _ h, g.keep k⟩
  | .kept none, v, ⟨p, e, h⟩ => ⟨p, e, k _ _ h⟩
  | .kept (some _), v, ⟨o, p, u, e, h, g⟩ => ⟨o, p, u, e, k _ _ h, g.keep k⟩
  | .not _, v, h => h.elim
  | .range _ _, v, h => h.elim
  | .count _, v, h => h.elim
theorem SA.same {H H' : Hp} (s : Same H H') {a : A} {v : V} (h : SA H a v) : SA H' a v := h.keep fun a xs e => s _ _ e
theorem SA.but {H H' : Hp} {d : Addr} {kvs : List (Key × V)} (b : But d H H') (hd : H d = some (.dK kvs)) {a : A} {v : V} (h : SA H a v) : SA H' a v :=
  h.keep fun a xs e => b _ _ e (ne_of e hd (by intro z; cases z))
theorem low_dep : ∀ {g : G}, g.dep ≤ 2 → g.low = true
  | .leaf _ _, _ => rfl
  | .fails (.leaf _ _), _ => rfl
  | .pair _ (.leaf _ _) (.leaf _ _), _ => rfl
  | .fails (.fails g), h => by
    have := g.dep_pos
    have h : 1 + (1 + g.dep) ≤ 2 := h
    omega
  | .fails (.pair s a b), h => by
    have := a.dep_pos
    have h : 1 + (1 + max a.dep b.dep) ≤ 2 := h
    omega
  | .pair _ (.fails g) b, h => by
    have := g.dep_pos
    have h : 1 + max (1 + g.dep) b.dep ≤ 2 := h
    omega
  | .pair _ (.pair s a b) c, h => by
    have := a.dep_pos
    have h : 1 + max (1 + max a.dep b.dep) c.dep ≤ 2 := h
    omega
  | .pair _ (.leaf _ _) (.fails g), h => by
    have := g.dep_pos
    have h : 1 + max 1 (1 + g.dep) ≤ 2 := h
    omega
  | .pair _ (.leaf _ _) (.pair s a b), h => by
    have := a.dep_pos
    have h : 1 + max 1 (1 + max a.dep b.dep) ≤ 2 := h
    omega
theorem GA.ref {H : Hp} {g : G} {v : V} (h : GA H g v) : ∃ p, v = .ref p := by
  cases g with
  | leaf s z => exact ⟨_, h.2.choose_spec.1⟩
  | fails g => exact ⟨_, h.choose_spec.choose_spec.1⟩
  | pair s a b => exact ⟨_, h.2.choose_spec.choose_spec.choose_spec.1⟩
/-- how the nine classes and Count are made -/
structure MakA (P : Program) (w : World) (K : PySem.W.Frag) (mg : Str → Option Value) (base : Heap) (C : Nat → Addr) (D : Addr) (fi : Nat → Addr) (fdi : Nat → FuncData) : Prop where
  any : Bare K (C 8)
  last : Bare K (C 11)
  changed : Bare K (C 13)
  number : MkAt P w K mg base 5 (C 9) ["self", "number"] (spINum (C 9) D) (fi 9) (fdi 9)
  each : MkAt P w K mg base 5 (C 10) ["self", "step", "start"] (spIEach (C 10) D) (fi 10) (fdi 10)
  eachK : KBn K (fdi 10) ["self", "step", "start"] 1 ["start", "step"] (fun us ws => us ++ ws.reverse) (fun us ws => us ++ ws.reverse)
  if_ : MkAt P w K mg base 4 (C 12) ["self", "test"] (spIIf C (C 12) D) (fi 12) (fdi 12)
  ifK : KBn K (fdi 12) ["self", "test"] 1 ["test"] (fun us ws => us ++ ws) (fun us ws => us ++ ws)
  kept : MkAt P w K mg base 4 (C 14) ["self", "test"] (spIKept C (C 14) D) (fi 14) (fdi 14)
  kept0 : ∃ ds, Vals [V.non] ds ∧ Binds K (fdi 14) ["self", "test"] ds
  keptK : KBn K (fdi 14) ["self", "test"] 1 ["test"] (fun us ws => us ++ ws) (fun us ws => us ++ ws)
  not : MkAt P w K mg base 14 (C 15) ["self", "address"] (spINot C (C 15) D) (fi 15) (fdi 15)
  notK : KBn K (fdi 15) ["self", "address"] 1 ["address"] (fun us ws => us ++ ws) (fun us ws => us ++ ws)
  range : MkAt P w K mg base 14 (C 16) ["self", "start", "stop"] (spIRange C (C 16) D) (fi 16) (fdi 16)
  rangeK : KBn K (fdi 16) ["self", "start", "stop"] 1 ["stop", "start"] (fun us ws => us ++ ws.reverse) (fun us ws => us ++ ws.reverse)
  count : MkAt P w K mg base 5 (C 17) ["self", "number"] (spINum (C 17) D) (fi 17) (fdi 17)
  countK : KBn K (fdi 17) ["self", "number"] 1 ["number"] (fun us ws => us ++ ws) (fun us ws => us ++ ws)
section
variable {P : Program} {w : World} {K : PySem.W.Frag} {mg : Str → Option Value} {base : Heap} {C fi : Nat → Addr} {fdi : Nat → FuncData} {CA D : Addr}
def spMS (C : Nat → Addr) : Sp := fun vs H Q _ => ∃ (a : A) (v : V), vs = [v] ∧ SA H a v ∧ ∀ (u : V) (H' : Hp), AA C H' a u → Same H H' → Q u H'
theorem scMS : FnScope ["_law_spot_here", "_law_sort"] ["_law_spot_here"] (defScope sMSp) := ⟨rfl, rfl, rfl, by decide +kernel, rfl, by decide +kernel, by decide +kernel⟩
theorem cnt_of {k : Int} (h : 1 ≤ k) : cntD (.int k) = true := decide_eq_true h
theorem ok_MS {f fG : Addr} {fd fdG : FuncData} (F : Fun K "_law_made_spot" "_law_made_spot" sMSp f fd) (N : NamA mg C CA) (M : MakA P w K mg base C D fi fdi) (MG : CallOf P w K mg base 18 "_law_made_goal" ["_law_goal_here"] (spMG C 2) fG fdG) :
    FnOk P w K mg base CX0 19 f fd ["_law_spot_here"] (spMS C) := by
  refine F.ok scMS (fun vs H Q E h => ?_) (fun cdv A outer s H vs Q E hr h => ?_)
  · obtain ⟨a, v, rfl, _⟩ := h
    rfl
  · obtain ⟨t, v, rfl, ht, q⟩ := h
    have hr6 : Room 6 _ := hr.mono (by decide)
    have hr5 : Room 5 _ := hr.mono (by decide)
    obtain ⟨ds0, vds0, bds0⟩ := M.kept0
    refine ⟨_, pss_cons (by exact (ps_set (i := 1) scMS.nd rfl (.inl rfl) (pe_ix ix_tup (pv 0) pe_int (fun _ _ => rfl))))
      (pss_cons (by exact (ps_if (pt_cmpR op_in_seq (pv 1) (pe_tup (pa_cons pe_str (pa_cons pe_str (pa_cons pe_str pa_nil)))) (by rfl)) (pss_one (by exact (ps_ret (pe_ifExp (pt_cmpR op_eq (pv 1) pe_str (nomark _)) (pe_bare M.any rfl N.any) (pe_ifExp (pt_cmpR op_eq (pv 1) pe_str (nomark _)) (pe_bare M.last rfl N.last) (pe_bare M.changed rfl N.changed)))))) pss_nil))
      (pss_cons (by exact (ps_if (pt_cmpR op_eq (pv 1) pe_str (nomark _)) (pss_one (by exact (ps_ret (pe_make M.number.made M.number.ok hr6 rfl N.number M.number.b .nil passN (pa_cons (pe_ix ix_tup (pv 0) pe_int (fun _ _ => rfl)) pa_nil))))) pss_nil))
      (pss_cons (by exact (ps_if (pt_cmpR op_eq (pv 1) pe_str (nomark _)) (pss_one (by exact (ps_ret (pe_make M.each.made M.each.ok hr6 rfl N.each M.each.b .nil passN (pa_cons (pe_ix ix_tup (pv 0) pe_int (fun _ _ => rfl)) (pa_cons (pe_ix ix_tup (pv 0) pe_int (fun _ _ => rfl)) pa_nil)))))) pss_nil))
      (pss_cons (by exact (ps_if (pt_cmpR op_eq (pv 1) pe_str (nomark _)) (pss_one (by exact (ps_ret (pe_make M.if_.made M.if_.ok hr5 rfl N.if_ M.if_.b .nil passN (pa_cons (pe_call MG.ok hr rfl MG.m MG.k MG.b .nil pass0 (pa_cons (pe_ix ix_tup (pv 0) pe_int (fun _ _ => rfl)) pa_nil)) pa_nil))))) pss_nil))
      (pss_cons (by exact (ps_if (pt_cmpR op_eq (pv 1) pe_str (nomark _)) (pss_one (by exact (ps_ret (pe_ifExp (pt_cmp (pc_isN (pe_ix ix_tup (pv 0) pe_int (fun _ _ => rfl)))) (pe_make0 M.kept.made M.kept.ok hr5 rfl N.kept bds0 vds0 passN) (pe_make M.kept.made M.kept.ok hr5 rfl N.kept M.kept.b .nil passN (pa_cons (pe_call MG.ok hr rfl MG.m MG.k MG.b .nil pass0 (pa_cons (pe_ix ix_tup (pv 0) pe_int (fun _ _ => rfl)) pa_nil)) pa_nil)))))) pss_nil))
      pss_never))))), ?_⟩
    -- body
    cases t with
    | any =>
        obtain ⟨p, rfl, hp⟩ := ht
        refine ⟨_, rfl, p, _, _, _, rfl, rfl, SqT.of hp, atI_nat (j := 0) rfl, ?_⟩
        refine ⟨_, rfl, (by show 3 ≤ sizeLine; decide), fun T1 nT1 => ⟨T1, _, rfl, .inr (SqT.of upd_same), rfl, rfl, _, rfl, ?_⟩⟩
        have sm1 := same_upd (o := .tup [.str "any", .str "last", .str "changed"]) nT1
        rw [show (if false = true then !inV (V.str "any") [V.str "any", V.str "last", V.str "changed"] else inV (V.str "any") [V.str "any", V.str "last", V.str "changed"]) = true by decide +kernel]
        refine iteT ?_
        refine ⟨_, rfl, rfl, _, rfl, ?_⟩
        rw [show decide (V.str "any" = V.str "any") = true by decide +kernel]
        refine iteT ?_
        intro x dx nx nd ne
        exact q (.ref x) _ ⟨x, dx, rfl, upd_same⟩ (sm1.trans (made_start nx nd))
    | last =>
        obtain ⟨p, rfl, hp⟩ := ht
        refine ⟨_, rfl, p, _, _, _, rfl, rfl, SqT.of hp, atI_nat (j := 0) rfl, ?_⟩
        refine ⟨_, rfl, (by show 3 ≤ sizeLine; decide), fun T1 nT1 => ⟨T1, _, rfl, .inr (SqT.of upd_same), rfl, rfl, _, rfl, ?_⟩⟩
        have sm1 := same_upd (o := .tup [.str "any", .str "last", .str "changed"]) nT1
        rw [show (if false = true then !inV (V.str "last") [V.str "any", V.str "last", V.str "changed"] else inV (V.str "last") [V.str "any", V.str "last", V.str "changed"]) = true by decide +kernel]
        refine iteT ?_
        refine ⟨_, rfl, rfl, _, rfl, ?_⟩
        rw [show decide (V.str "last" = V.str "any") = false by decide +kernel]
        refine iteF ?_
        refine ⟨_, rfl, rfl, _, rfl, ?_⟩
        rw [show decide (V.str "last" = V.str "last") = true by decide +kernel]
        refine iteT ?_
        intro x dx nx nd ne
        exact q (.ref x) _ ⟨x, dx, rfl, upd_same⟩ (sm1.trans (made_start nx nd))
    | changed =>
        obtain ⟨p, rfl, hp⟩ := ht
        refine ⟨_, rfl, p, _, _, _, rfl, rfl, SqT.of hp, atI_nat (j := 0) rfl, ?_⟩
        refine ⟨_, rfl, (by show 3 ≤ sizeLine; decide), fun T1 nT1 => ⟨T1, _, rfl, .inr (SqT.of upd_same), rfl, rfl, _, rfl, ?_⟩⟩
        have sm1 := same_upd (o := .tup [.str "any", .str "last", .str "changed"]) nT1
        rw [show (if false = true then !inV (V.str "changed") [V.str "any", V.str "last", V.str "changed"] else inV (V.str "changed") [V.str "any", V.str "last", V.str "changed"]) = true by decide +kernel]
        refine iteT ?_
        refine ⟨_, rfl, rfl, _, rfl, ?_⟩
        rw [show decide (V.str "changed" = V.str "any") = false by decide +kernel]
        refine iteF ?_
        refine ⟨_, rfl, rfl, _, rfl, ?_⟩
        rw [show decide (V.str "changed" = V.str "last") = false by decide +kernel]
        refine iteF ?_
        intro x dx nx nd ne
        exact q (.ref x) _ ⟨x, dx, rfl, upd_same⟩ (sm1.trans (made_start nx nd))
    | number n =>
        obtain ⟨n1, p, rfl, hp⟩ := ht
        refine ⟨_, rfl, p, _, _, _, rfl, rfl, SqT.of hp, atI_nat (j := 0) rfl, ?_⟩
        refine ⟨_, rfl, (by show 3 ≤ sizeLine; decide), fun T1 nT1 => ⟨T1, _, rfl, .inr (SqT.of upd_same), rfl, rfl, _, rfl, ?_⟩⟩
        have sm1 := same_upd (o := .tup [.str "any", .str "last", .str "changed"]) nT1
        rw [show (if false = true then !inV (V.str "number") [V.str "any", V.str "last", V.str "changed"] else inV (V.str "number") [V.str "any", V.str "last", V.str "changed"]) = false by decide +kernel]
        refine iteF ?_
        refine ⟨_, rfl, rfl, _, rfl, ?_⟩
        rw [show decide (V.str "number" = V.str "number") = true by decide +kernel]
        refine iteT ?_
        refine ⟨_, rfl, p, _, _, _, rfl, rfl, SqT.of (sm1 _ _ hp), atI_nat (j := 1) rfl, fun x dx nx nd ne => ⟨x, dx, (fun _ => True), _, .int n, rfl, upd_same, .int n, fun _ H2 hx b => ⟨rfl, ?_⟩, fun no => (by rw [cnt_of n1] at no; cases no)⟩⟩
        exact q (.ref x) H2 ⟨x, dx, rfl, hx⟩ (sm1.trans (made_same nx nd b))
    | each s1 t1 =>
        obtain ⟨⟨n1, n2⟩, p, rfl, hp⟩ := ht
        refine ⟨_, rfl, p, _, _, _, rfl, rfl, SqT.of hp, atI_nat (j := 0) rfl, ?_⟩
        refine ⟨_, rfl, (by show 3 ≤ sizeLine; decide), fun T1 nT1 => ⟨T1, _, rfl, .inr (SqT.of upd_same), rfl, rfl, _, rfl, ?_⟩⟩
        have sm1 := same_upd (o := .tup [.str "any", .str "last", .str "changed"]) nT1
        rw [show (if false = true then !inV (V.str "each") [V.str "any", V.str "last", V.str "changed"] else inV (V.str "each") [V.str "any", V.str "last", V.str "changed"]) = false by decide +kernel]
        refine iteF ?_
        refine ⟨_, rfl, rfl, _, rfl, ?_⟩
        rw [show decide (V.str "each" = V.str "number") = false by decide +kernel]
        refine iteF ?_
        refine ⟨_, rfl, rfl, _, rfl, ?_⟩
        rw [show decide (V.str "each" = V.str "each") = true by decide +kernel]
        refine iteT ?_
        refine ⟨_, rfl, p, _, _, _, rfl, rfl, SqT.of (sm1 _ _ hp), atI_nat (j := 1) rfl, _, rfl, p, _, _, _, rfl, rfl, SqT.of (sm1 _ _ hp), atI_nat (j := 2) rfl, fun x dx nx nd ne => ⟨x, dx, (fun _ => True), (fun _ => True), _, _, .int s1, .int t1, rfl, upd_same, .int s1, .int t1, fun _ _ H2 hx b => ⟨rfl, ?_⟩, fun no => (by rw [cnt_of n1] at no; cases no), fun _ no => (by rw [cnt_of n2] at no; cases no)⟩⟩
        exact q (.ref x) H2 ⟨x, dx, rfl, hx⟩ (sm1.trans (made_same nx nd b))
    | if_ g =>
        obtain ⟨⟨wf, d2, l2⟩, p, u, rfl, hp, hg⟩ := ht
        refine ⟨_, rfl, p, _, _, _, rfl, rfl, SqT.of hp, atI_nat (j := 0) rfl, ?_⟩
        refine ⟨_, rfl, (by show 3 ≤ sizeLine; decide), fun T1 nT1 => ⟨T1, _, rfl, .inr (SqT.of upd_same), rfl, rfl, _, rfl, ?_⟩⟩
        have sm1 := same_upd (o := .tup [.str "any", .str "last", .str "changed"]) nT1
        rw [show (if false = true then !inV (V.str "if") [V.str "any", V.str "last", V.str "changed"] else inV (V.str "if") [V.str "any", V.str "last", V.str "changed"]) = false by decide +kernel]
        refine iteF ?_
        refine ⟨_, rfl, rfl, _, rfl, ?_⟩
        rw [show decide (V.str "if" = V.str "number") = false by decide +kernel]
        refine iteF ?_
        refine ⟨_, rfl, rfl, _, rfl, ?_⟩
        rw [show decide (V.str "if" = V.str "each") = false by decide +kernel]
        refine iteF ?_
        refine ⟨_, rfl, rfl, _, rfl, ?_⟩
        rw [show decide (V.str "if" = V.str "if") = true by decide +kernel]
        refine iteT ?_
        refine ⟨_, rfl, p, _, _, _, rfl, rfl, SqT.of (sm1 _ _ hp), atI_nat (j := 1) rfl, g, u, rfl, hg.same sm1, wf, d2, by omega, by omega, fun t H3 ht s3 => ?_⟩
        intro x dx nx nd ne
        refine ⟨x, dx, t, true, rfl, upd_same, .inl (.inr ⟨g, ht.same (made_start nx nd), rfl⟩), fun _ H4 hx b => ⟨rfl, ?_⟩, fun z => nomatch z⟩
        exact q (.ref x) H4 ⟨x, dx, t, rfl, hx, ht.same (made_same nx nd b)⟩ ((sm1.trans s3).trans (made_same nx nd b))
    | kept g0 =>
      cases g0 with
      | none =>
        obtain ⟨p, rfl, hp⟩ := ht
        refine ⟨_, rfl, p, _, _, _, rfl, rfl, SqT.of hp, atI_nat (j := 0) rfl, ?_⟩
        refine ⟨_, rfl, (by show 3 ≤ sizeLine; decide), fun T1 nT1 => ⟨T1, _, rfl, .inr (SqT.of upd_same), rfl, rfl, _, rfl, ?_⟩⟩
        have sm1 := same_upd (o := .tup [.str "any", .str "last", .str "changed"]) nT1
        rw [show (if false = true then !inV (V.str "kept") [V.str "any", V.str "last", V.str "changed"] else inV (V.str "kept") [V.str "any", V.str "last", V.str "changed"]) = false by decide +kernel]
        refine iteF ?_
        refine ⟨_, rfl, rfl, _, rfl, ?_⟩
        rw [show decide (V.str "kept" = V.str "number") = false by decide +kernel]
        refine iteF ?_
        refine ⟨_, rfl, rfl, _, rfl, ?_⟩
        rw [show decide (V.str "kept" = V.str "each") = false by decide +kernel]
        refine iteF ?_
        refine ⟨_, rfl, rfl, _, rfl, ?_⟩
        rw [show decide (V.str "kept" = V.str "if") = false by decide +kernel]
        refine iteF ?_
        refine ⟨_, rfl, rfl, _, rfl, ?_⟩
        rw [show decide (V.str "kept" = V.str "kept") = true by decide +kernel]
        refine iteT ?_
        refine ⟨_, rfl, p, _, _, _, rfl, rfl, SqT.of (sm1 _ _ hp), atI_nat (j := 1) rfl, _, rfl, ?_⟩
        rw [decide_eq_true rfl]
        refine iteT ?_
        intro x dx nx nd ne
        refine ⟨x, dx, .non, true, rfl, upd_same, .inl ⟨rfl, rfl⟩, fun _ H2 hx b => ⟨rfl, ?_⟩, fun z => nomatch z⟩
        exact q (.ref x) H2 ⟨x, dx, rfl, hx⟩ (sm1.trans (made_same nx nd b))
      | some g =>
        obtain ⟨⟨wf, d2, l2⟩, p, u, rfl, hp, hg⟩ := ht
        refine ⟨_, rfl, p, _, _, _, rfl, rfl, SqT.of hp, atI_nat (j := 0) rfl, ?_⟩
        refine ⟨_, rfl, (by show 3 ≤ sizeLine; decide), fun T1 nT1 => ⟨T1, _, rfl, .inr (SqT.of upd_same), rfl, rfl, _, rfl, ?_⟩⟩
        have sm1 := same_upd (o := .tup [.str "any", .str "last", .str "changed"]) nT1
        rw [show (if false = true then !inV (V.str "kept") [V.str "any", V.str "last", V.str "changed"] else inV (V.str "kept") [V.str "any", V.str "last", V.str "changed"]) = false by decide +kernel]
        refine iteF ?_
        refine ⟨_, rfl, rfl, _, rfl, ?_⟩
        rw [show decide (V.str "kept" = V.str "number") = false by decide +kernel]
        refine iteF ?_
        refine ⟨_, rfl, rfl, _, rfl, ?_⟩
        rw [show decide (V.str "kept" = V.str "each") = false by decide +kernel]
        refine iteF ?_
        refine ⟨_, rfl, rfl, _, rfl, ?_⟩
        rw [show decide (V.str "kept" = V.str "if") = false by decide +kernel]
        refine iteF ?_
        refine ⟨_, rfl, rfl, _, rfl, ?_⟩
        rw [show decide (V.str "kept" = V.str "kept") = true by decide +kernel]
        refine iteT ?_
        obtain ⟨pu, rfl⟩ := hg.ref
        refine ⟨_, rfl, p, _, _, _, rfl, rfl, SqT.of (sm1 _ _ hp), atI_nat (j := 1) rfl, _, rfl, ?_⟩
        rw [decide_eq_false (by intro z; cases z)]
        refine iteF ?_
        refine ⟨_, rfl, p, _, _, _, rfl, rfl, SqT.of (sm1 _ _ hp), atI_nat (j := 1) rfl, g, .ref pu, rfl, hg.same sm1, wf, d2, by omega, by omega, fun t H3 ht s3 => ?_⟩
        intro x dx nx nd ne
        refine ⟨x, dx, t, true, rfl, upd_same, .inr ⟨fun z => ?_, .inl (.inr ⟨g, ht.same (made_start nx nd), rfl⟩)⟩, fun _ H4 hx b => ⟨rfl, ?_⟩, fun z => nomatch z⟩
        · obtain ⟨_, pt, _, _, z2, _⟩ := ht.at_
          rw [z2] at z
          cases z
        · exact q (.ref x) H4 ⟨x, dx, t, rfl, hx, ht.same (made_same nx nd b)⟩ ((sm1.trans s3).trans (made_same nx nd b))
    | not a => exact ht.elim
    | range a b => exact ht.elim
    | count n => exact ht.elim
end
end LA
end
section
set_option Elab.async false
set_option linter.all false
set_option maxRecDepth 100000
set_option maxHeartbeats 4100000
namespace LA
open PySem L2 XS XT XK XL LamX XO DnX B0X RfX
abbrev sGW : Stmt := top 72
theorem pget {α β : Type} {F : α → β → Prop} : ∀ {gs : List α} {us : List β} {i : Nat} {u : β}, Paired F gs us → us[i]? = some u → ∃ g, gs[i]? = some g ∧ F g u
  | _, _, i, u, .nil, h => by simp at h
  | _, _, 0, u, .cons a b, h => by
    rw [List.getElem?_cons_zero] at h
    cases h
    exact ⟨_, rfl, a⟩
  | _, _, i + 1, u, .cons a b, h => by
    rw [List.getElem?_cons_succ] at h ⊢
    exact pget b h
/-- what stands behind the sort's name in the law's tuple -/
theorem GA.tail {H : Hp} {g : G} {v : V} (h : GA H g v) (ne : g.kids ≠ []) : ∃ (nm : Str) (p : Addr) (us : List V), v = .ref p ∧ H p = some (.tup (.str nm :: us)) ∧ Paired (fun g u => GA H g u) g.kids us ∧ nm ∈ (["fails", "both", "either"] : List Str) := by
  cases g with
  | leaf s z => exact absurd rfl ne
  | fails g =>
    obtain ⟨p, u, e, hp, hu⟩ := h
    exact ⟨"fails", p, [u], e, hp, .cons hu .nil, by simp⟩
  | pair s x y =>
    obtain ⟨s2, p, u1, u2, e, hp, h1, h2⟩ := h
    have es : s = 0 ∨ s = 1 := by omega
    rcases es with rfl | rfl
    · exact ⟨"both", p, [u1, u2], e, hp, .cons h1 (.cons h2 .nil), by simp⟩
    · exact ⟨"either", p, [u1, u2], e, hp, .cons h1 (.cons h2 .nil), by simp⟩
theorem in_three : ∀ nm ∈ (["fails", "both", "either"] : List Str), inV (V.str nm) [V.str "fails", V.str "both", V.str "either"] = true := by decide +kernel
theorem not_three : ∀ s, s < 5 → inV (V.str (nmL s)) [V.str "fails", V.str "both", V.str "either"] = false := by decide +kernel
theorem cut_tail (x : V) (us : List V) : cutV (x :: us) (some 1) none = us := by
  unfold cutV
  show ((x :: us).drop (HT.sIx (us.length + 1) 0 (some ((1 : Nat) : Int)))).take (HT.sIx (us.length + 1) (us.length + 1) none - HT.sIx (us.length + 1) 0 (some ((1 : Nat) : Int))) = us
  rw [HT.sIx_nat, HT.sIx_none, Nat.min_eq_left (by omega)]
  show us.take (us.length + 1 - 1) = us
  rw [Nat.add_sub_cancel, List.take_length]
theorem not_whole (x : V) (us : List V) : ¬ (HT.sIx (x :: us).length 0 (some 1) = 0 ∧ HT.sIx (x :: us).length (x :: us).length none = (x :: us).length) := by
  intro z
  have e : HT.sIx (us.length + 1) 0 (some ((1 : Nat) : Int)) = 0 := z.1
  rw [HT.sIx_nat, Nat.min_eq_left (by omega)] at e
  cases e
section
variable {P : Program} {w : World} {K : PySem.W.Frag} {mg : Str → Option Value} {base : Heap} {C fi : Nat → Addr} {fdi : Nat → FuncData} {CA D : Addr}
def spGW (n : Nat) : Sp := fun vs H Q _ => ∃ (g : G) (v : V), vs = [v] ∧ GA H g v ∧ g.dep ≤ n ∧ ∀ H', Same H H' → Q (.int (g.lv : Int)) H'
theorem scGW : FnScope ["_law_goal_here", "_law_part"] ["_law_goal_here"] (defScope sGW) := ⟨rfl, rfl, rfl, by decide +kernel, rfl, by decide +kernel, by decide +kernel⟩
theorem sum_lvs : ∀ l : List G, (l.map fun k => (k.lv : Int)).sum = (lvs l : Int)
  | [] => rfl
  | g :: r => by
    rw [List.map_cons, List.sum_cons, sum_lvs r]
    show (g.lv : Int) + (lvs r : Int) = ((g.lv + lvs r : Nat) : Int)
    omega
theorem ok_GW {f : Addr} {fd : FuncData} (F : Fun K "_law_goal_words" "_law_goal_words" sGW f fd) (mS : mg "sum" = none) (mD : mg "_law_goal_words" = some (.ref f)) (kD : PySem.W.keepIn K (.ref f) = true) (bD : Binds K fd ["_law_goal_here"] []) :
    ∀ n, FnOk P w K mg base CX0 (n + 1) f fd ["_law_goal_here"] (spGW n) := by
  intro n
  induction n with
  | zero =>
    refine F.ok scGW (fun vs H Q E h => ?_) (fun cdv A outer s H vs Q E hr h => ?_)
    · obtain ⟨g, v, rfl, _⟩ := h
      rfl
    · obtain ⟨g, v, rfl, _, d, _⟩ := h
      have := g.dep_pos
      omega
  | succ n ih =>
    refine F.ok scGW (fun vs H Q E h => ?_) (fun cdv A outer s H vs Q E hr h => ?_)
    · obtain ⟨g, v, rfl, _⟩ := h
      rfl
    · obtain ⟨g, v, rfl, hg, hd, q⟩ := h
      refine ⟨_, pss_cons (by exact (ps_if (pt_cmpR op_in_seq (pe_ix ix_tup (pv 0) pe_int (fun _ _ => rfl)) (pe_tup (pa_cons pe_str (pa_cons pe_str (pa_cons pe_str pa_nil)))) (by rfl)) (pss_one (by exact (ps_ret (pe_callB (cr_sum rfl) (by rfl) mS (by decide +kernel) (pa_cons (pe_lc (own := [("_law_part", 1)]) (g := gName 1) (tt := tYes) (te := tCall (spGW n) [] (fun _ _ _ => False) (tCons (tVar 1) tNil)) rfl scGW.nd (pi_tup (pe_slice sl_tup (pv 0) (po_some pe_int) po_none))
          (blkOk_by (N := ["_law_goal_here", "_law_part"]) (sc := defScope sGW) (by decide +kernel))
          (fun _ _ _ _ _ => by exact (pg_name (i := 1) scGW.nd rfl (Or.inl rfl)))
          (fun _ _ _ _ _ => by exact pts_nil)
          (fun _ _ _ _ _ => by exact (pe_call ih hr rfl mD kD bD .nil pass0 (pa_cons (pv 1) pa_nil)))) pa_nil))))) pss_nil)) (
        pss_one (by exact (ps_ret pe_int))), ?_⟩
      by_cases ne : g.kids = []
      · obtain ⟨s, z, rfl⟩ : ∃ s z, g = .leaf s z := by
          cases g with
          | leaf s z => exact ⟨s, z, rfl⟩
          | fails g => cases ne
          | pair s a b => cases ne
        obtain ⟨s5, p, rfl, hp⟩ := hg
        refine ⟨_, rfl, p, _, _, _, rfl, rfl, SqT.of hp, atI_nat (j := 0) rfl, (by show 3 ≤ sizeLine; decide), fun T nT => ⟨T, _, rfl, .inr (SqT.of upd_same), rfl, rfl, _, rfl, ?_⟩⟩
        have sm := same_upd (o := .tup [.str "fails", .str "both", .str "either"]) nT
        rw [if_neg (by decide), not_three s s5]
        exact iteF (q _ sm)
      · obtain ⟨nm, p, us, rfl, hp, kids, mem⟩ := hg.tail ne
        refine ⟨_, rfl, p, _, _, _, rfl, rfl, SqT.of hp, atI_nat (j := 0) rfl, (by show 3 ≤ sizeLine; decide), fun T nT => ⟨T, _, rfl, .inr (SqT.of upd_same), rfl, rfl, _, rfl, ?_⟩⟩
        have sm := same_upd (o := .tup [.str "fails", .str "both", .str "either"]) nT
        rw [if_neg (by decide), in_three nm mem]
        refine iteT ⟨_, rfl, _, rfl, p, _, rfl, SqT.of (sm _ _ hp), not_whole _ _, fun t nt => ⟨t, rfl, ⟨_, SqT.of upd_same⟩, fun D nD => ?_⟩⟩
        rw [cut_tail] at nD ⊢
        have s1 := sm.trans (same_upd (o := .tup us) nt)
        generalize hG : upd (upd H T (.tup [.str "fails", .str "both", .str "either"])) t (.tup us) = G0 at nD s1
        have ht : G0 t = some (.tup us) := by rw [← hG]; exact upd_same
        refine lc_it (walk_tup (xs := us)) (fun i X => X D = some (.lst ((g.kids.take i).map fun k => V.int (k.lv : Int))) ∧ Same G0 X) ⟨upd_same, same_upd nD⟩ (fun i X _ p2 => SqT.of (p2.2 _ _ ht)) (fun i x X X' hi p2 yl => ?_) (fun X p2 => ?_)
        · obtain ⟨pD, pS⟩ := p2
          obtain ⟨rfl, hx⟩ := yl
          obtain ⟨k, hk, gk⟩ := pget kids hx
          refine ⟨rfl, ?_⟩
          dsimp only [tYes]
          rw [if_pos rfl]
          have kd := kids_dep g k (List.mem_of_getElem? hk)
          refine ⟨_, rfl, k, _, rfl, (gk.same s1).same pS, by omega, fun X2 s2 => ⟨_, s2 _ _ pD, ?_, ?_, ?_⟩⟩
          · rw [List.length_map, List.length_take]
            have := kids_two g
            exact Nat.lt_of_le_of_lt (Nat.le_trans (Nat.min_le_right _ _) this) (by decide)
          · rw [List.take_succ, hk, List.map_append]
            exact upd_same
          · intro b o e
            rw [upd_ne (ne_of_none e nD)]
            exact s2 _ _ (pS b o e)
        · obtain ⟨pD, pS⟩ := p2
          have ek : g.kids.take us.length = g.kids := List.take_of_length_le (by rw [kids.length]; exact Nat.le_refl _)
          rw [ek] at pD
          refine ⟨D, g.kids.map fun k => (k.lv : Int), rfl, SqL.of (by rw [pD, List.map_map]; rfl), ?_⟩
          rw [sum_lvs, lvs_kids g ne]
          exact q X (s1.trans pS)
end
end LA
end
section
set_option Elab.async false
set_option linter.all false
set_option maxRecDepth 100000
set_option maxHeartbeats 4100000
namespace LA
open PySem L2 XS XT XK XL LamX XO DnX B0X RfX
abbrev sBud : Stmt := top 71
abbrev sGD : Stmt := top 73
/-! ### what is left: a dict of numbers -/
abbrev kTs : Key := Sum.inr "tests"
abbrev kRg : Key := Sum.inr "ranges"
abbrev kKp : Key := Sum.inr "kept"
abbrev kCh : Key := Sum.inr "changes"
structure Lf (H : Hp) (L : Addr) (kvs : List (Key × V)) (t k : Int) : Prop where
  dc : H L = some (.dK kvs)
  vt : valV kvs kTs = some (.int t)
  vk : valV kvs kKp = some (.int k)
  sz : kvs.length ≤ 4
def LfAt (H : Hp) (L : Addr) (t k : Int) : Prop := ∃ kvs, Lf H L kvs t k
theorem nTK : ¬ (kTs = kKp) := by decide +kernel
theorem nKT : ¬ (kKp = kTs) := by decide +kernel
theorem Lf.getT {H L kvs t k} (p : Lf H L kvs t k) : DGet H L (.str "tests") (some (.int t)) := by
  have h := DGet.k (k := kTs) p.dc
  rw [p.vt] at h
  exact h
theorem Lf.getK {H L kvs t k} (p : Lf H L kvs t k) : DGet H L (.str "kept") (some (.int k)) := by
  have h := DGet.k (k := kKp) p.dc
  rw [p.vk] at h
  exact h
theorem Lf.small {H L kvs t k} (p : Lf H L kvs t k) : kvs.length < sizeLine := small1000 (by have := p.sz; omega)
theorem Lf.keep {H H' L kvs t k} (p : Lf H L kvs t k) (h : Same H H') : Lf H' L kvs t k := ⟨h _ _ p.dc, p.vt, p.vk, p.sz⟩
theorem LfAt.keep {H H' L t k} (p : LfAt H L t k) (h : Same H H') : LfAt H' L t k := by
  obtain ⟨kvs, p⟩ := p
  exact ⟨kvs, p.keep h⟩
theorem LfAt.but {H H' L t k d} (p : LfAt H L t k) (b : But d H H') (n : L ≠ d) : LfAt H' L t k := by
  obtain ⟨kvs, p⟩ := p
  exact ⟨kvs, b _ _ p.dc n, p.vt, p.vk, p.sz⟩
theorem Lf.putT {H L kvs t k} (p : Lf H L kvs t k) (t' : Int) : LfAt (upd H L (.dK (putK kvs kTs (.int t')))) L t' k :=
  ⟨_, upd_same, by rw [valV_put, if_pos rfl], by rw [valV_put, if_neg nKT]; exact p.vk, by rw [put_same_len p.vt]; exact p.sz⟩
theorem Lf.putK {H L kvs t k} (p : Lf H L kvs t k) (k' : Int) : LfAt (upd H L (.dK (putK kvs kKp (.int k')))) L t k' :=
  ⟨_, upd_same, by rw [valV_put, if_neg nTK]; exact p.vt, by rw [valV_put, if_pos rfl], by rw [put_same_len p.vk]; exact p.sz⟩
/-- all that was tracked is as it was, but at d and at L -/
def But2 (d L : Addr) (H H' : Hp) : Prop := ∀ b o, H b = some o → b ≠ d → b ≠ L → H' b = some o
theorem But2.trans {d L : Addr} {H H1 H2 : Hp} (a : But2 d L H H1) (b : But2 d L H1 H2) : But2 d L H H2 := fun c o h n m => b c o (a c o h n m) n m
theorem But2.same {d L : Addr} {H H' : Hp} (s : Same H H') : But2 d L H H' := fun c o h _ _ => s c o h
theorem But2.one {d L : Addr} {H H' : Hp} (s : But d H H') : But2 d L H H' := fun c o h n _ => s c o h n
theorem But2.two {d L : Addr} {H : Hp} {o : HO} : But2 d L H (upd H L o) := fun b u e _ m => by
  rw [upd_ne m]
  exact e
theorem GA.but2 {H H' : Hp} {d L : Addr} {kvs kws : List (Key × V)} (b : But2 d L H H') (hd : H d = some (.dK kvs)) (hL : H L = some (.dK kws)) {g : G} {v : V} (h : GA H g v) : GA H' g v :=
  h.keep fun a xs e => b _ _ e (ne_of e hd (by intro z; cases z)) (ne_of e hL (by intro z; cases z))
theorem SA.but2 {H H' : Hp} {d L : Addr} {kvs kws : List (Key × V)} (b : But2 d L H H') (hd : H d = some (.dK kvs)) (hL : H L = some (.dK kws)) {a : A} {v : V} (h : SA H a v) : SA H' a v :=
  h.keep fun a xs e => b _ _ e (ne_of e hd (by intro z; cases z)) (ne_of e hL (by intro z; cases z))
theorem PenAt.putD {H : Hp} {d c : Addr} {n : Int} {ns : List Int} {L : Addr} {kws kvs : List (Key × V)} (p : PenAt H d c n ns) (hL : H L = some (.dK kws)) (n1 : L ≠ d) : PenAt (upd H L (.dK kvs)) d c n ns := by
  obtain ⟨kv, t, l, q⟩ := p
  refine ⟨kv, t, l, by rw [upd_ne (Ne.symm n1)]; exact q.dc, q.vc, q.vt, q.vl, q.t0, q.tn, q.sz, ?_, q.cl⟩
  rw [upd_ne (ne_of q.cs hL (by intro z; cases z))]
  exact q.cs
section
variable {P : Program} {w : World} {K : PySem.W.Frag} {mg : Str → Option Value} {base : Heap} {C fi : Nat → Addr} {fdi : Nat → FuncData} {CA D : Addr}
/-- the wide budget -/
def spBud : Sp := fun vs H Q _ => vs = [.bl false] ∧ ∀ (L : Addr) (H' : Hp), LfAt H' L 6 2 → H L = none → Same H H' → Q (.ref L) H'
theorem scBud : FnScope ["_law_is_tight", "_law_tight"] ["_law_is_tight"] (defScope sBud) := ⟨rfl, rfl, rfl, by decide +kernel, rfl, by decide +kernel, by decide +kernel⟩
theorem nTR : ¬ (kTs = kRg) := by decide +kernel
theorem nTC2 : ¬ (kTs = kCh) := by decide +kernel
theorem nKC : ¬ (kKp = kCh) := by decide +kernel
theorem ok_Bud {f : Addr} {fd : FuncData} (F : Fun K "_law_budget" "_law_budget" sBud f fd) : FnOk P w K mg base CX0 1 f fd ["_law_is_tight"] spBud := by
  refine F.ok scBud (fun vs H Q E h => ?_) (fun cdv A outer s H vs Q E hr h => ?_)
  · obtain ⟨rfl, _⟩ := h
    rfl
  · obtain ⟨rfl, q⟩ := h
    refine ⟨_, pss_cons (by exact (ps_set (i := 1) scBud.nd rfl (.inl rfl) (pe_disp (pps_cons pe_str pe_int (pps_cons pe_str pe_int (pps_cons pe_str pe_int (pps_cons pe_str pe_int pps_nil)))) (by rfl) (by rfl) (fun z => by cases z) (by decide))))
      (pss_one (by exact (ps_ret (pe_ifExp (pt_truth (pv 0) (fun _ => rfl)) (pv 1) (pe_disp (pps_cons pe_str pe_int (pps_cons pe_str pe_int (pps_cons pe_str pe_int (pps_cons pe_str pe_int pps_nil)))) (by rfl) (by rfl) (fun z => by cases z) (by decide)))))), ?_⟩
    intro t0 nt0
    have s1 : Same H (upd H t0 (.dK [])) := same_upd nt0
    refine ⟨upd_same, [(kTs, .int 3), (kRg, .int 1), (kKp, .int 1), (kCh, .int 2)], rfl, by show 4 ≤ 15; decide, ?_⟩
    rw [upd_upd]
    have s2 : Same H (upd H t0 (.dK (mergeK [] [(kTs, .int 3), (kRg, .int 1), (kKp, .int 1), (kCh, .int 2)]))) := same_upd nt0
    refine ⟨_, rfl, false, rfl, iteF ?_⟩
    intro L nL
    refine ⟨upd_same, [(kTs, .int 6), (kRg, .int 3), (kKp, .int 2), (kCh, .int 3)], rfl, by show 4 ≤ 15; decide, ?_⟩
    rw [upd_upd]
    refine q L _ ⟨_, upd_same, ?_, ?_, length_mergeK _ _⟩ (fresh_back s2 nL) (s2.trans (same_upd nL))
    · show valV (putK (putK (putK (putK [] kTs (.int 6)) kRg (.int 3)) kKp (.int 2)) kCh (.int 3)) kTs = _
      rw [valV_put, if_neg nTC2, valV_put, if_neg nTK, valV_put, if_neg nTR, valV_put, if_pos rfl]
    · show valV (putK (putK (putK (putK [] kTs (.int 6)) kRg (.int 3)) kKp (.int 2)) kCh (.int 3)) kKp = _
      rw [valV_put, if_neg nKC, valV_put, if_pos rfl]
theorem fn_or {CX : CXT} {k : Nat} {f : Addr} {fd : FuncData} {ps : List Str} {s1 s2 : Sp} (F1 : FnOk P w K mg base CX k f fd ps s1) (F2 : FnOk P w K mg base CX k f fd ps s2) : FnOk P w K mg base CX k f fd ps (fun vs H Q E => s1 vs H Q E ∨ s2 vs H Q E) :=
  ⟨fun vs H Q E h => h.elim (F1.len vs H Q E) (F2.len vs H Q E), fun A outer s H args us vs Q E hr e0 hb r h => h.elim (F1.run A outer s H args us vs Q E hr e0 hb r) (F2.run A outer s H args us vs Q E hr e0 hb r)⟩
theorem G.lv_pos : ∀ g : G, 1 ≤ g.lv
  | .leaf _ _ => Nat.le_refl 1
  | .fails g => g.lv_pos
  | .pair _ a b => by
    have := a.lv_pos
    show 1 ≤ a.lv + b.lv
    omega
/-- goal, one or two levels deep -/
def spG2 : Sp := fun vs H Q E => spGoal 0 vs H Q E ∨ spGoal 1 vs H Q E
/-- goal_drawn: a plain test of at most two words, what is left gets less -/
def spGD : Sp := fun vs H Q _ => ∃ (d c L : Addr) (n : Int) (ns : List Int) (z : Str) (t k : Int), vs = [.ref d, .str z, .ref L] ∧ PenAt H d c n ns ∧ n + 20 < 1000000 ∧ Sgn z ∧ LfAt H L t k ∧ L ≠ d ∧ -10 ≤ t ∧ t ≤ 10 ∧
  ∀ (v : V) (g : G) (t' : Int) (H' : Hp), GA H' g v → g.wf → g.dep ≤ 2 → g.lv ≤ 2 → t' ≤ t → t - 2 ≤ t' → PenAt H' d c (n + 20) ns → LfAt H' L t' k → But2 d L H H' → Q v H'
theorem scGD : FnScope ["_law_pen_here", "_law_signs_here", "_law_left", "_law_goal_here"] ["_law_pen_here", "_law_signs_here", "_law_left"] (defScope sGD) := ⟨rfl, rfl, rfl, by decide +kernel, rfl, by decide +kernel, by decide +kernel⟩
theorem ok_GD {f f1 f2 f3 : Addr} {fd fd1 fd2 fd3 : FuncData} (F : Fun K "_law_goal_drawn" "_law_goal_drawn" sGD f fd) (GO : CallOf P w K mg base 5 "_law_goal" ["_law_pen_here", "_law_signs_here", "_law_wide", "_law_deep"] spG2 f1 fd1) (PK : PickAt P w K mg base f2 fd2) (GW : CallOf P w K mg base 3 "_law_goal_words" ["_law_goal_here"] (spGW 2) f3 fd3) :
    FnOk P w K mg base CX0 6 f fd ["_law_pen_here", "_law_signs_here", "_law_left"] spGD := by
  refine F.ok scGD (fun vs H Q E h => ?_) (fun cdv A outer s H vs Q E hr h => ?_)
  · obtain ⟨d, c, L, n, ns, z, t, k, rfl, _⟩ := h
    rfl
  · obtain ⟨d, c, L, n, ns, z, t, k, rfl, pen, hn, sz, lf, nLd, t0, t1, q⟩ := h
    have hr5 : Room 5 _ := hr.mono (by decide)
    have hr3 : Room 3 _ := hr.mono (by decide)
    have hr2 : Room 2 _ := hr.mono (by decide)
    have hu := hu_of hr
    have zl : z.length ≤ sizeLine := Nat.le_trans sz.three (by decide)
    refine ⟨_, pss_cons (by exact (ps_set (i := 3) scGD.nd rfl (.inl rfl) (pe_call GO.ok hr5 rfl GO.m GO.k GO.b .nil pass0 (pa_cons (pv 0) (pa_cons (pv 1) (pa_cons pe_int (pa_cons (pe_call PK.ok hr2 rfl PK.m PK.k PK.b .nil pass0 (pa_cons (pv 0) (pa_cons (pe_lst (pa_cons pe_int (pa_cons pe_int (pa_cons pe_int pa_nil)))) pa_nil))) pa_nil)))))))
      (pss_cons (by exact (ps_if (pt_cmpR op_gt (pe_call GW.ok hr3 rfl GW.m GW.k GW.b .nil pass0 (pa_cons (pv 3) pa_nil)) (pe_dget hu (pv 2) pe_str (fun _ _ => rfl)) (nomark _)) (pss_one (by exact (ps_set (i := 3) scGD.nd rfl (.inl rfl) (pe_tup (pa_cons pe_str (pa_cons (pe_ix ix_str (pv 1) pe_int (fun _ _ => rfl)) pa_nil)))))) pss_nil))
      (pss_cons (by exact (ps_dput hu (pv 2) pe_str (pe_op op_sub (pe_dget hu (pv 2) pe_str (fun _ _ => rfl)) (pe_call GW.ok hr3 rfl GW.m GW.k GW.b .nil pass0 (pa_cons (pv 3) pa_nil))) rfl))
      (pss_one (by exact (ps_ret (pv 3)))))), ?_⟩
    refine ⟨_, rfl, _, rfl, _, rfl, (by show 3 ≤ sizeLine; decide), fun O nO => ?_⟩
    have sO := same_upd (o := .lst [.int 0, .int 0, .int 1]) nO
    have zc : 0 < (cod z).length := by
      rw [len_cod]
      have := sz.two
      omega
    have at0 : atI z.cps.toList 0 = some ((cod z)[0]'zc) := atI_nat (j := 0) (List.getElem?_eq_getElem zc)
    have c0 : cost 2 0 = 6 := by decide
    have c1 : cost 2 1 = 18 := by decide
    obtain ⟨kv0, _, _, pp0⟩ := id pen
    refine ⟨d, c, n, ns, _, rfl, pen.keep sO, by omega, .inl ⟨O, _, rfl, upd_same, (by show 0 < 3; decide), (by show 3 < 1000000; decide), fun v H1 hv pen1 b1 => ?_⟩⟩
    simp only [List.mem_cons, List.not_mem_nil, or_false] at hv
    have lf1 := (lf.keep sO).but b1 nLd
    have bb1 : But d H H1 := (But.same sO).trans b1
    rcases hv with rfl | rfl | rfl
    case' inl => refine .inl ⟨d, c, n + 1, ns, z, 2, rfl, pen1, by rw [c0]; omega, sz, by decide, by decide, fun v g H2 hg wf dp lv pen2 b2 => ?_⟩
    case' inr.inl => refine .inl ⟨d, c, n + 1, ns, z, 2, rfl, pen1, by rw [c0]; omega, sz, by decide, by decide, fun v g H2 hg wf dp lv pen2 b2 => ?_⟩
    case' inr.inr => refine .inr ⟨d, c, n + 1, ns, z, 2, rfl, pen1, by rw [c1]; omega, sz, by decide, by decide, fun v g H2 hg wf dp lv pen2 b2 => ?_⟩
    all_goals
      have d2 : g.dep ≤ 2 := Nat.le_trans dp (by decide)
      have l2 : g.lv ≤ 2 := Nat.le_trans lv (by decide)
      have pen3 : PenAt H2 d c (n + 20) ns := pen2.le (by first | (rw [c0]; omega) | (rw [c1]; omega))
      have lf2 := lf1.but b2 nLd
      have bb2 := bb1.trans b2
      clear pen2 dp lv
      refine ⟨_, rfl, g, v, rfl, hg, d2, fun H3 s3 => ?_⟩
      obtain ⟨kvs, lf3⟩ := lf2.keep s3
      have pen4 := pen3.keep s3
      have bb3 := bb2.trans (But.same s3)
      refine ⟨_, rfl, L, _, rfl, lf3.getT, _, _, rfl, rfl, _, rfl, ?_⟩
      refine ite2 (fun _ => ?_) (fun _ => ?_)
      · refine ⟨_, rfl, z, 0, (cod z)[0]'zc, rfl, rfl, zl, at0, (by show 2 ≤ sizeLine; decide), fun u nu => ?_⟩
        have sU := same_upd (o := .tup [.str "has", .str ⟨#[(cod z)[0]'zc]⟩]) nu
        have lf4 := lf3.keep sU
        have hgu : GA (upd H3 u (.tup [.str "has", .str ⟨#[(cod z)[0]'zc]⟩])) (.leaf 0 ⟨#[(cod z)[0]'zc]⟩) (.ref u) := ⟨by decide, u, rfl, upd_same⟩
        have wfu : (G.leaf 0 ⟨#[(cod z)[0]'zc]⟩).wf := ⟨fun _ => short_of (fun x hx => by
                have e : x = (cod z)[0]'zc := by simpa using hx
                rw [e]
                exact List.getElem_mem zc) sz (by show 1 ≤ 1; omega) (by show 1 ≤ 8; omega), fun e => absurd e (by decide), fun e => absurd e (by decide), by show 1 < 100; omega⟩
        refine ⟨_, rfl, L, _, rfl, lf4.getT, _, rfl, .leaf 0 ⟨#[(cod z)[0]'zc]⟩, .ref u, rfl, hgu, (by show 1 ≤ 2; decide), fun H4 s4 => ?_⟩
        have lf5 := lf4.keep s4
        refine ⟨_, _, rfl, rfl, _, rfl, L, _, rfl, DPut.k (k := kTs) lf5.dc lf5.small, ?_⟩
        have pen5 := (pen4.keep sU).keep s4
        have bb4 := (bb3.trans (But.same sU)).trans (But.same s4)
        refine ⟨_, rfl, q _ (.leaf 0 ⟨#[(cod z)[0]'zc]⟩) _ _ ?_ wfu (by show 1 ≤ 2; decide) (by show 1 ≤ 2; decide) ?_ ?_ (pen5.putD lf5.dc nLd) (lf5.putT _) ((But2.one bb4).trans But2.two)⟩
        · exact (hgu.same s4).keep fun a xs e => by
            rw [upd_ne (ne_of e lf5.dc (by intro z; cases z))]
            exact e
        · show t - (1 : Nat) ≤ t
          omega
        · show t - 2 ≤ t - (1 : Nat)
          omega
      · refine ⟨_, rfl, L, _, rfl, lf3.getT, _, rfl, g, v, rfl, hg.same s3, d2, fun H4 s4 => ?_⟩
        have lf5 := lf3.keep s4
        refine ⟨_, _, rfl, rfl, _, rfl, L, _, rfl, DPut.k (k := kTs) lf5.dc lf5.small, ?_⟩
        have pen5 := pen4.keep s4
        have bb4 := bb3.trans (But.same s4)
        have gp := g.lv_pos
        refine ⟨_, rfl, q _ g _ _ ?_ wf d2 l2 ?_ ?_ (pen5.putD lf5.dc nLd) (lf5.putT _) ((But2.one bb4).trans But2.two)⟩
        · exact ((hg.same s3).same s4).keep fun a xs e => by
            rw [upd_ne (ne_of e lf5.dc (by intro z; cases z))]
            exact e
        · omega
        · omega
end
end LA
end
section
set_option Elab.async false
set_option linter.all false
set_option maxRecDepth 100000
set_option maxHeartbeats 4100000
namespace LA
open PySem L2 XS XT XK XL LamX XO DnX B0X RfX
abbrev sSpo : Stmt := top 74
section
variable {P : Program} {w : World} {K : PySem.W.Frag} {mg : Str → Option Value} {base : Heap} {C fi : Nat → Addr} {fdi : Nat → FuncData} {CA D : Addr}
abbrev nSpo : List Str := ["_law_pen_here", "_law_signs_here", "_law_left", "_law_deep", "_law_way", "_law_some", "_law_ranges_here", "_law_first", "_law_tip"]
theorem scSpo : FnScope nSpo ["_law_pen_here", "_law_signs_here", "_law_left", "_law_deep"] (defScope sSpo) := ⟨rfl, rfl, rfl, by decide +kernel, rfl, by decide +kernel, by decide +kernel⟩
theorem pt_never {X : Cx} {e : Expr} : PT X e (fun _ _ _ => False) := ⟨fun _ _ _ _ _ _ h => h.elim⟩
/-- spot: a plain address, none within another -/
def spSpo : Sp := fun vs H Q _ => ∃ (d c L : Addr) (n : Int) (ns : List Int) (z : Str) (t k : Int), vs = [.ref d, .str z, .ref L, .int 0] ∧ PenAt H d c n ns ∧ n + 30 < 1000000 ∧ Sgn z ∧ LfAt H L t k ∧ L ≠ d ∧ 0 ≤ t ∧ t ≤ 10 ∧
  ∀ (v : V) (a : A) (H' : Hp), SA H' a v → PenAt H' d c (n + 30) ns → But2 d L H H' → Q v H'
theorem two_in (r a b : Int) : (if false = true then !inV (V.int r) [V.int a, V.int b] else inV (V.int r) [V.int a, V.int b]) = decide (r = a ∨ r = b) := by
  rw [if_neg Bool.false_ne_true]
  by_cases h1 : r = a
  · subst h1
    rw [decide_eq_true (.inl rfl)]
    simp [inV, eqV]
  · by_cases h2 : r = b
    · subst h2
      rw [decide_eq_true (.inr rfl)]
      simp [inV, eqV]
    · rw [decide_eq_false (by rintro (z | z); exact h1 z; exact h2 z)]
      simp [inV, eqV, h1, h2]
      exact ⟨fun e => h1 e.symm, fun e => h2 e.symm⟩
theorem ok_Spo {f f1 f2 : Addr} {fd fd1 fd2 : FuncData} (F : Fun K "_law_spot" "_law_spot" sSpo f fd) (DR : Draws P w K mg base f1 fd1) (GD : CallOf P w K mg base 6 "_law_goal_drawn" ["_law_pen_here", "_law_signs_here", "_law_left"] spGD f2 fd2) :
    FnOk P w K mg base CX0 7 f fd ["_law_pen_here", "_law_signs_here", "_law_left", "_law_deep"] spSpo := by
  refine F.ok scSpo (fun vs H Q E h => ?_) (fun cdv A outer s H vs Q E hr h => ?_)
  · obtain ⟨d, c, L, n, ns, z, t, k, rfl, _⟩ := h
    rfl
  · obtain ⟨d, c, L, n, ns, z, t, k, rfl, pen, hn, sz, lf, nLd, t0, t1, q⟩ := h
    have hr1 : Room 1 _ := hr.mono (by decide)
    have hu := hu_of hr
    refine ⟨_, pss_cons (by exact (ps_set (i := 4) scSpo.nd rfl (.inl rfl) (pe_call DR.ok hr1 rfl DR.m DR.k DR.b .nil pass0 (pa_cons (pv 0) (pa_cons pe_int pa_nil)))))
      (pss_cons (by exact (ps_if (pt_cmpR op_in_seq (pv 4) (pe_tup (pa_cons pe_int (pa_cons pe_int pa_nil))) (by rfl)) (pss_cons (by exact (ps_set (i := 5) scSpo.nd rfl (.inl rfl) (pe_tup (pa_cons pe_str (pa_cons (pe_op op_add pe_int (pe_call DR.ok hr1 rfl DR.m DR.k DR.b .nil pass0 (pa_cons (pv 0) (pa_cons pe_int pa_nil)))) (pa_cons (pe_op op_add pe_int (pe_call DR.ok hr1 rfl DR.m DR.k DR.b .nil pass0 (pa_cons (pv 0) (pa_cons pe_int pa_nil)))) pa_nil)))))) (pss_one (by exact (ps_ret (pe_ifExp (pt_cmpR op_eq (pv 4) pe_int (nomark _)) (pe_tup (pa_cons pe_str (pa_cons (pe_ix ix_tup (pv 5) pe_int (fun _ _ => rfl)) pa_nil))) (pv 5)))))) pss_nil))
      (pss_cons (by exact (ps_if (pt_cmpR op_in_seq (pv 4) (pe_tup (pa_cons pe_int (pa_cons pe_int pa_nil))) (by rfl)) (pss_one (by exact (ps_ret (pe_ifExp (pt_cmpR op_eq (pv 4) pe_int (nomark _)) (pe_tup (pa_cons pe_str pa_nil)) (pe_tup (pa_cons pe_str pa_nil)))))) pss_nil))
      (pss_cons (by exact (ps_if (PW.pt (pw_and (pt_cmpR op_in_seq (pv 4) (pe_tup (pa_cons pe_int (pa_cons pe_int pa_nil))) (by rfl)) (pw_and1 (pt_cmpR op_gt (pe_dget hu (pv 2) pe_str (fun _ _ => rfl)) pe_int (nomark _))))) (pss_one (by exact (ps_ret (pe_tup (pa_cons pe_str (pa_cons (pe_call GD.ok hr rfl GD.m GD.k GD.b .nil pass0 (pa_cons (pv 0) (pa_cons (pv 1) (pa_cons (pv 2) pa_nil)))) pa_nil)))))) pss_nil))
      (pss_cons (by exact (ps_if (pt_cmpR op_eq (pv 4) pe_int (nomark _)) (pss_cons (by exact (ps_if (PW.pt (pw_and (pt_cmpR op_gt (pe_dget hu (pv 2) pe_str (fun _ _ => rfl)) pe_int (nomark _)) (pw_and (pt_cmpR op_gt (pe_dget hu (pv 2) pe_str (fun _ _ => rfl)) pe_int (nomark _)) (pw_and1 (pt_cmpR op_eq (pe_call DR.ok hr1 rfl DR.m DR.k DR.b .nil pass0 (pa_cons (pv 0) (pa_cons pe_int pa_nil))) pe_int (nomark _))))))
            (pss_cons (by exact (ps_dput hu (pv 2) pe_str (pe_op op_sub (pe_dget hu (pv 2) pe_str (fun _ _ => rfl)) pe_int) rfl)) (pss_one (by exact (ps_ret (pe_tup (pa_cons pe_str (pa_cons (pe_call GD.ok hr rfl GD.m GD.k GD.b .nil pass0 (pa_cons (pv 0) (pa_cons (pv 1) (pa_cons (pv 2) pa_nil)))) pa_nil))))))) pss_nil)) (pss_one (by exact (ps_ret (pe_tup (pa_cons pe_str (pa_cons pe_non pa_nil))))))) pss_nil))
      (pss_cons (by exact (ps_if (PW.pt (pw_and (pt_cmpR op_eq (pv 4) pe_int (nomark _)) (pw_and1 (pt_cmpR op_gt (pv 3) pe_int (nomark _))))) pss_never pss_nil))
      (pss_cons (by exact (ps_if (PW.pt (pw_and (pt_cmpR op_gt (pv 4) pe_int (nomark _)) (pw_and (pt_cmpR op_gt (pv 3) pe_int (nomark _)) (pw_and1 pt_never)))) pss_never pss_nil))
      (pss_one (by exact (ps_ret (pe_tup (pa_cons pe_str pa_nil))))))))))), ?_⟩
    obtain ⟨kv0, _, _, pp0⟩ := id pen
    refine ⟨_, rfl, d, c, n, ns, 13, rfl, pen, by omega, by decide, by decide, fun r H1 r0 r1 pen1 b1 => ?_⟩
    have lf1 := lf.but b1 nLd
    refine ⟨_, rfl, (by show 2 ≤ sizeLine; decide), fun T1 nT1 => ⟨T1, _, rfl, .inr (SqT.of upd_same), rfl, rfl, _, rfl, ?_⟩⟩
    have s1 := same_upd (o := .tup [.int 3, .int 4]) nT1
    have pen2 := pen1.keep s1
    have lf2 := lf1.keep s1
    have bb2 : But d H (upd H1 T1 (.tup [.int 3, .int 4])) := b1.trans (But.same s1)
    rw [two_in]
    rcases Classical.em (r = 3 ∨ r = 4) with c3 | c3
    · rw [decide_eq_true c3]
      refine iteT ⟨_, rfl, d, c, n + 1, ns, 3, rfl, pen2, by omega, by decide, by decide, fun x H2 x0 x1 pen3 b3 => ⟨_, _, rfl, rfl, _, rfl, d, c, n + 1 + 1, ns, 3, rfl, pen3, by omega, by decide, by decide, fun y H3 y0 y1 pen4 b4 => ⟨_, _, rfl, rfl, (by show 3 ≤ sizeLine; decide), fun u nu => ?_⟩⟩⟩
      have s4 := same_upd (o := .tup [.str "each", .int (1 + x), .int (1 + y)]) nu
      have bb := ((bb2.trans b3).trans b4).trans (But.same s4)
      have pen5 := pen4.keep s4
      refine ⟨_, rfl, rfl, _, rfl, ?_⟩
      cases e : decide (V.int r = V.int 3) with
      | true =>
        refine iteT ⟨_, rfl, u, _, _, _, rfl, rfl, SqT.of upd_same, atI_nat (j := 1) rfl, (by show 2 ≤ sizeLine; decide), fun u2 nu2 => ?_⟩
        have s5 := same_upd (o := .tup [.str "number", .int (1 + x)]) nu2
        exact q (.ref u2) (.number (1 + x)) _ ⟨by omega, u2, rfl, upd_same⟩ ((pen5.keep s5).le (by omega)) (But2.one (bb.trans (But.same s5)))
      | false =>
        exact iteF ⟨_, rfl, q (.ref u) (.each (1 + x) (1 + y)) _ ⟨⟨by omega, by omega⟩, u, rfl, upd_same⟩ (pen5.le (by omega)) (But2.one bb)⟩
    · rw [decide_eq_false c3]
      refine iteF ⟨_, rfl, (by show 2 ≤ sizeLine; decide), fun T2 nT2 => ⟨T2, _, rfl, .inr (SqT.of upd_same), rfl, rfl, _, rfl, ?_⟩⟩
      have s2 := same_upd (o := .tup [.int 5, .int 6]) nT2
      have pen3 := pen2.keep s2
      have lf3 := lf2.keep s2
      have bb3 := bb2.trans (But.same s2)
      rw [two_in]
      rcases Classical.em (r = 5 ∨ r = 6) with c5 | c5
      · rw [decide_eq_true c5]
        refine iteT ⟨_, rfl, rfl, _, rfl, ?_⟩
        cases e : decide (V.int r = V.int 5) with
        | true =>
          refine iteT ⟨(by show 1 ≤ sizeLine; decide), fun u nu => ?_⟩
          have s5 := same_upd (o := .tup [.str "last"]) nu
          exact q (.ref u) .last _ ⟨u, rfl, upd_same⟩ ((pen3.keep s5).le (by omega)) (But2.one (bb3.trans (But.same s5)))
        | false =>
          refine iteF ⟨(by show 1 ≤ sizeLine; decide), fun u nu => ?_⟩
          have s5 := same_upd (o := .tup [.str "changed"]) nu
          exact q (.ref u) .changed _ ⟨u, rfl, upd_same⟩ ((pen3.keep s5).le (by omega)) (But2.one (bb3.trans (But.same s5)))
      · rw [decide_eq_false c5]
        refine iteF ⟨_, rfl, (by show 2 ≤ sizeLine; decide), fun T3 nT3 => ⟨T3, _, rfl, .inr (SqT.of upd_same), rfl, rfl, _, rfl, ?_⟩⟩
        have s3 := same_upd (o := .tup [.int 7, .int 8]) nT3
        have pen4 := pen3.keep s3
        have lf4 := lf3.keep s3
        have bb4 := bb3.trans (But.same s3)
        generalize upd (upd (upd H1 T1 (.tup [.int 3, .int 4])) T2 (.tup [.int 5, .int 6])) T3 (.tup [.int 7, .int 8]) = H4 at pen4 lf4 bb4 ⊢
        clear pen3 pen2 lf3 lf2 bb3 bb2 s1 s2 s3 nT1 nT2 nT3
        obtain ⟨kvs, lf5⟩ := id lf4
        rw [two_in]
        rcases Classical.em (r = 7 ∨ r = 8) with c7 | c7
        case' inl =>
          rw [decide_eq_true c7]
          refine iteT ⟨_, rfl, L, _, rfl, lf5.getT, _, _, rfl, rfl, _, rfl, ?_⟩
          rcases Classical.em (t > 0) with ct | ct
          case' inl =>
            rw [decide_eq_true ct]
            refine iteT ⟨_, rfl, _, rfl, _, rfl, d, c, L, n + 1, ns, z, t, k, rfl, pen4, by omega, sz, lf4, nLd, by omega, by omega, fun v g t' H5 hg wf d2 l2 t2 t3 pen5 lf6 b5 => ⟨(by show 2 ≤ sizeLine; decide), fun u nu => ?_⟩⟩
            have s6 := same_upd (o := .tup [.str "if", v]) nu
            exact q (.ref u) (.if_ g) _ ⟨⟨wf, d2, l2⟩, u, v, rfl, upd_same, hg.same s6⟩ ((pen5.keep s6).le (by omega)) (((But2.one bb4).trans b5).trans (But2.same s6))
          case' inr =>
            rw [decide_eq_false ct]
            refine iteF ?_
        case' inr =>
          rw [decide_eq_false c7]
          refine iteF (iteF ?_)
        all_goals
          refine ⟨_, rfl, rfl, _, rfl, ?_⟩
          rcases Classical.em (r = 9) with c9 | c9
          · rw [int_dec, decide_eq_true c9]
            have fin : ∀ (Hx : Hp), But2 d L H Hx → PenAt Hx d c (n + 2) ns → ∀ u, Hx u = none → Q (.ref u) (upd Hx u (.tup [.str "kept", .non])) := fun Hx bx px u nu => by
              have s6 := same_upd (o := .tup [.str "kept", .non]) nu
              exact q (.ref u) (.kept none) _ ⟨u, rfl, upd_same⟩ ((px.keep s6).le (by omega)) (bx.trans (But2.same s6))
            refine iteT ⟨_, rfl, L, _, rfl, lf5.getK, _, _, rfl, rfl, _, rfl, ?_⟩
            rcases Classical.em (k > 0) with ck | ck
            · rw [decide_eq_true ck]
              refine iteT ⟨_, rfl, L, _, rfl, lf5.getT, _, _, rfl, rfl, _, rfl, ?_⟩
              rcases Classical.em (t > 0) with ct | ct
              · rw [decide_eq_true ct]
                refine iteT ⟨_, rfl, d, c, n + 1, ns, 2, rfl, pen4, by omega, by decide, by decide, fun x H5 x0 x1 pen5 b5 => ⟨rfl, _, rfl, ?_⟩⟩
                obtain ⟨kvs6, lf6⟩ := lf4.but b5 nLd
                cases ex : decide (V.int x = V.int 0) with
                | true =>
                  refine iteT ⟨_, rfl, L, _, rfl, lf6.getK, _, _, rfl, rfl, _, rfl, L, _, rfl, DPut.k (k := kKp) lf6.dc lf6.small, ?_⟩
                  have pen6 := pen5.putD (kvs := putK kvs6 kKp (.int (k - 1))) lf6.dc nLd
                  refine ⟨_, rfl, _, rfl, _, rfl, d, c, L, n + 1 + 1, ns, z, t, k - 1, rfl, pen6, by omega, sz, lf6.putK _, nLd, by omega, by omega, fun v g t' H7 hg wf d2 l2 t2 t3 pen7 lf7 b7 => ⟨(by show 2 ≤ sizeLine; decide), fun u nu => ?_⟩⟩
                  have s6 := same_upd (o := .tup [.str "kept", v]) nu
                  obtain ⟨pv, rfl⟩ := hg.ref
                  exact q (.ref u) (.kept (some g)) _ ⟨⟨wf, d2, l2⟩, u, _, rfl, upd_same, hg.same s6⟩ ((pen7.keep s6).le (by omega)) (((((But2.one bb4).trans (But2.one b5)).trans But2.two).trans b7).trans (But2.same s6))
                | false =>
                  exact iteF ⟨(by show 2 ≤ sizeLine; decide), fun u nu => fin H5 ((But2.one bb4).trans (But2.one b5)) (pen5.le (by omega)) u nu⟩
              · rw [decide_eq_false ct]
                exact iteF (iteF ⟨(by show 2 ≤ sizeLine; decide), fun u nu => fin H4 (But2.one bb4) (pen4.le (by omega)) u nu⟩)
            · rw [decide_eq_false ck]
              exact iteF (iteF ⟨(by show 2 ≤ sizeLine; decide), fun u nu => fin H4 (But2.one bb4) (pen4.le (by omega)) u nu⟩)
          · rw [int_dec, decide_eq_false c9]
            have fin : ∀ u, H4 u = none → Q (.ref u) (upd H4 u (.tup [.str "any"])) := fun u nu => by
              have s6 := same_upd (o := .tup [.str "any"]) nu
              exact q (.ref u) .any _ ⟨u, rfl, upd_same⟩ ((pen4.keep s6).le (by omega)) ((But2.one bb4).trans (But2.same s6))
            have z0 : decide ((0 : Int) > 0) = false := by decide
            refine iteF ⟨_, rfl, rfl, _, rfl, ?_⟩
            rcases Classical.em (r = 10) with c10 | c10
            case' inl =>
              rw [int_dec, decide_eq_true c10]
              refine iteT ⟨_, rfl, _, _, rfl, rfl, _, rfl, ?_⟩
              rw [z0]
              refine iteF ?_
            case' inr =>
              rw [int_dec, decide_eq_false c10]
              refine iteF (iteF ?_)
            all_goals
              refine ⟨_, rfl, _, _, rfl, rfl, _, rfl, ?_⟩
              rcases Classical.em (r > 10) with c11 | c11
              case' inl =>
                rw [decide_eq_true c11]
                refine iteT ⟨_, rfl, _, _, rfl, rfl, _, rfl, ?_⟩
                rw [z0]
                refine iteF (iteF ?_)
              case' inr =>
                rw [decide_eq_false c11]
                refine iteF (iteF ?_)
              all_goals
                exact ⟨(by show 1 ≤ sizeLine; decide), fun u nu => fin u nu⟩
end
end LA
end
section
set_option Elab.async false
set_option linter.all false
set_option maxRecDepth 100000
set_option maxHeartbeats 4100000
namespace LA
open PySem PySem.Spec PyProof.Rows L2 XS XT XK XL LamX XO DnX B0X RfX
abbrev sNmR : Stmt := top 77
/-- the properties of all the classes -/
structure GetX (P : Program) (w : World) (K : PySem.W.Frag) (mg : Str → Option Value) (base : Heap) (C p g : Nat → Addr) (fd : Nat → FuncData) : Prop where
  num : PropAt P w K mg base (C 9) "number" "_number" (p 0) (g 0) (fd 0)
  step : PropAt P w K mg base (C 10) "step" "_step" (p 1) (g 1) (fd 1)
  startE : PropAt P w K mg base (C 10) "start" "_start" (p 2) (g 2) (fd 2)
  if_ : PropAt P w K mg base (C 12) "test" "_test" (p 3) (g 3) (fd 3)
  kept : PropAt P w K mg base (C 14) "test" "_test" (p 4) (g 4) (fd 4)
  not : PropAt P w K mg base (C 15) "address" "_address" (p 5) (g 5) (fd 5)
  start : PropAt P w K mg base (C 16) "start" "_start" (p 6) (g 6) (fd 6)
  stop : PropAt P w K mg base (C 16) "stop" "_stop" (p 7) (g 7) (fd 7)
  count : PropAt P w K mg base (C 17) "number" "_number" (p 8) (g 8) (fd 8)
/-- what the law's own defs know of addresses -/
structure LwA (P : Program) (w : World) (K : PySem.W.Frag) (mg : Str → Option Value) (base : Heap) (C : Nat → Addr) (CA D : Addr) (fi : Nat → Addr) (fdi : Nat → FuncData) (fe : Nat → Addr) (fde : Nat → FuncData) (p g : Nat → Addr) (fg : Nat → FuncData) : Prop where
  k : KA K C CA
  N : NamA mg C CA
  O : Outs K C
  M : MakA P w K mg base C D fi fdi
  E : ∀ i, 8 ≤ i → i < 18 → EqAtA P w K mg base C 11 i 8 (fe i) (fde i)
  G : GetX P w K mg base C p g fg
theorem Same.extN {H H' : Hp} (s : Same H H') : ExtN H H' := fun b o e _ => s b o e
/-- how the law's tuple of an error is told -/
theorem cau_ref {D : Addr} {H Hi : Hp} {arg : Str} {Q : VK} (s : Same H Hi) (q : ∀ (p : Addr) (H2 : Hp), H2 p = some (.tup [.str "wrong", .str arg, .bl true]) → Same H H2 → Q (.ref p) H2) :
    Refuses D Hi (fun cls d H' => cls = .ref D ∧ ∃ (dd : Addr) (fs : List (Str × V)) (z : Str), d = some dd ∧ H' dd = some (.xd fs) ∧ fs.lookup ("argument" : Str) = some (V.str z) ∧
      ∀ (p : Addr) (H2 : Hp), H' p = none → Same H' H2 → H2 p = some (.tup [.str "wrong", .str z, .bl true]) → Q (.ref p) H2) arg :=
  fun d H' _ s2 hd => ⟨rfl, d, _, arg, rfl, hd, look1, fun p H2 _ s3 hp => q p H2 hp ((s.trans s2).trans s3)⟩
def wrongD (arg : Str) : PyData := .tuple [.str "wrong", .str arg, .bool true]
theorem wrong_lay {arg : Str} (h : PyData.strOk arg = true) : PyData.canLay0 (wrongD arg) = true := by
  unfold wrongD PyData.canLay0
  show (PyData.canLay0 (.str "wrong") && (PyData.canLay0 (.str arg) && (PyData.canLay0 (.bool true) && true))) = true
  unfold PyData.canLay0
  rw [h, show PyData.strOk "wrong" = true by decide +kernel]
  rfl
theorem wrong_shaped {arg : Str} (h : PyData.strOk arg = true) : SeqAt.shaped (wrongD arg) = true := by
  unfold SeqAt.shaped
  have d : PyData.depth (wrongD arg) ≤ 64 := by simp [wrongD, PyData.depth, PyData.depthAll]
  rw [wrong_lay h, decide_eq_true d]
  rfl
theorem wrong_dp {K : PySem.W.Frag} {H : Hp} {p : Addr} {arg : Str} (h : H p = some (.tup [.str "wrong", .str arg, .bl true])) : Dp K H (.ref p) (wrongD arg) := .tup (.inl (.inl h)) (.cons (.str _) (.cons (.str _) (.cons (.bl _) .nil)))
theorem len_app (x y : Str) : (x ++ y).length = x.length + y.length := by
  show (x.cps ++ y.cps).size = _
  rw [Array.size_append]
  rfl
theorem shown_two (x y : PyData) : (PyData.tuple [x, y]).shown.length = x.shown.length + y.shown.length + 4 := by
  rw [PyData.shown_tuple]
  have e : Str.join ", " (PyData.shownAll [x, y]) = x.shown ++ ", " ++ y.shown := by
    rfl
  rw [e, len_app, len_app, len_app, len_app]
  have e1 : ("(" : Str).length = 1 := by decide +kernel
  have e2 : (", " : Str).length = 2 := by decide +kernel
  have e3 : (Str.ofString (if ([x, y].length == 1) = true then ",)" else ")")).length = 1 := by
    show (Str.ofString ")").length = 1
    decide +kernel
  rw [e1, e2, e3]
  omega
theorem shows_ints {a b : Int} (ha : a.natAbs ≤ 10 ^ 60) (hb : b.natAbs ≤ 10 ^ 60) : Shows (.tuple [.int a, .int b]) := by
  have a2 : a.natAbs < 2 ^ 200 := Nat.lt_of_le_of_lt ha (by decide)
  have b2 : b.natAbs < 2 ^ 200 := Nat.lt_of_le_of_lt hb (by decide)
  refine ⟨?_, ?_, ?_⟩
  · show (decide (a.natAbs.log2 < 1920) && (decide (b.natAbs.log2 < 1920) && true)) = true
    rw [decide_eq_true (big_int a2), decide_eq_true (big_int b2)]
    rfl
  · rw [shown_two]
    have h1 := len_shown_int a2
    have h2 := len_shown_int b2
    exact Nat.le_trans (show _ ≤ 4000 by omega) (by decide)
  · simp [PyData.depth, PyData.depthAll]
/-- a value that a pick of the numbers gives -/
structure NumV (N : Addr → Prop) (H : Hp) (v : V) (e : PyData) : Prop where
  z : Dz N H v e
  num : numD e 1 (10 ^ 60) = cntD e
theorem num_of {N : Addr → Prop} {H : Hp} {x : V} {e : PyData} (hx : Dz N H x e) (fx : Fine e) : ∀ v ∈ ([.int 1, .int 2, .int 7, .int (10 ^ (30 : Int).toNat), .int 0, .int (-1), .bl true, .non, .str "1", .bl (decide ((2 : Int) > 1)), x] : List V), ∃ e, NumV N H v e := by
  intro v hv
  simp only [List.mem_cons, List.not_mem_nil, or_false] at hv
  rcases hv with rfl | rfl | rfl | rfl | rfl | rfl | rfl | rfl | rfl | rfl | rfl
  · exact ⟨_, .int 1, by decide +kernel⟩
  · exact ⟨_, .int 2, by decide +kernel⟩
  · exact ⟨_, .int 7, by decide +kernel⟩
  · exact ⟨_, .int _, by decide +kernel⟩
  · exact ⟨_, .int 0, by decide +kernel⟩
  · exact ⟨_, .int (-1), by decide +kernel⟩
  · exact ⟨_, .bl true, by decide +kernel⟩
  · exact ⟨_, .non, by decide +kernel⟩
  · exact ⟨_, .str (oks "1" (by decide +kernel) (by decide +kernel)), by decide +kernel⟩
  · exact ⟨_, .bl _, rfl⟩
  · exact ⟨e, hx, fx.num⟩
section
variable {P : Program} {w : World} {K : PySem.W.Frag} {mg : Str → Option Value} {base : Heap} {C fi fe : Nat → Addr} {fdi fde : Nat → FuncData} {CA D : Addr} {p g : Nat → Addr} {fg : Nat → FuncData} {T : List (Addr × Str)}
abbrev nNmR : List Str := ["_law_pen_here", "_law_some", "_law_wrong", "_law_due", "_law_told_here", "_law_told", "_law_a", "_law_b", "_law_k"]
theorem scNmR : FnScope nNmR ["_law_pen_here"] (defScope sNmR) := ⟨rfl, rfl, rfl, by decide +kernel, rfl, by decide +kernel, by decide +kernel⟩
def spNmR (T : List (Addr × Str)) : Sp := fun vs H Q _ => ∃ (d c : Addr) (n : Int) (ns : List Int), vs = [.ref d] ∧ PenAt H d c n ns ∧ n + 3 < 1000000 ∧ Tabs T H ∧ ∀ H', PenAt H' d c (n + 3) ns → Tabs T H' → Q (.bl true) H'
theorem ok_NmR {f c PP gc fP fAn fNu : Addr} {fd fdg dP dAn dNu : FuncData} (F : FunC K "_law_numbers_right" "_law_numbers_right" sNmR f fd c) (TB : TabB base mg c PP) (here : (PP, lamQ "_law_numbers_right" sNmR) ∈ T) (one : ∀ p ∈ T, p.1 = PP → p.2 = lamQ "_law_numbers_right" sNmR)
    (CU : CauAt K mg D gc fdg) (W : LwA P w K mg base C CA D fi fdi fe fde p g fg) (mR : mg "range" = none) (mRe : mg "repr" = none)
    (PK : PickAt P w K mg base fP dP) (AN : CallOf P w K mg base 3 "_law_any_value" ["_law_pen_here"] spAny fAn dAn) (NU : CallOf P w K mg base 1 "_law_is_number" ["_law_thing", "_law_low", "_law_high"] spNum fNu dNu) :
    AtG P w K mg base CX0 14 f fd ["_law_pen_here"] (spNmR T) := by
  refine F.atG scNmR (fun vs H Q E h => ?_) (fun A outer s H vs Q E quiet hr h => ?_)
  · obtain ⟨d, c0, n, ns, rfl, _⟩ := h
    rfl
  · obtain ⟨d, c0, n, ns, rfl, pen, hn, hT, q⟩ := h
    have hu6 := hr.units
    have hr12 : Room 12 _ := hr.mono (by decide)
    have hr11 : Room 11 _ := hr.mono (by decide)
    have hr8 : Room 8 _ := hr.mono (by decide)
    have hr6 : Room 6 _ := hr.mono (by decide)
    have hr3 : Room 3 _ := hr.mono (by decide)
    have hr2 : Room 2 _ := hr.mono (by decide)
    have hr1 : Room 1 _ := hr.mono (by decide)
    obtain ⟨cdg, GT⟩ := CauAt.taker (X := (cxOf CX0 P w K mg base nNmR "_law_numbers_right" (defScope sNmR) f (.ref c) A outer s H E).nox) CU
    have mk : Maker (cxOf CX0 P w K mg base nNmR "_law_numbers_right" (defScope sNmR) f (.ref c) A outer s H E).nox T c PP := ⟨TB, rfl, here, one⟩
    have c9 := (W.k.cled 9 (by decide) (by decide)).cls
    have c10 := (W.k.cled 10 (by decide) (by decide)).cls
    have c17 := (W.k.cled 17 (by decide) (by decide)).cls
    refine ⟨_, pss_cons (by exact (ps_set (i := 1) scNmR.nd rfl (.inl rfl) (pe_lst (pa_cons pe_int (pa_cons pe_int (pa_cons pe_int (pa_cons (pe_op op_pow pe_int pe_int) (pa_cons pe_int (pa_cons (pe_un un_neg pe_int) (pa_cons pe_bl (pa_cons pe_non (pa_cons pe_str (pa_cons (pe_cmpR op_gt pe_int pe_int (nomark _)) (pa_cons (pe_call AN.ok hr3 rfl AN.m AN.k AN.b .nil pass0 (pa_cons (pv 0) pa_nil)) pa_nil)))))))))))))) 
      (pss_cons (by exact (ps_asg (pe_tup (pa_cons (pe_call PK.ok hr2 rfl PK.m PK.k PK.b .nil pass0 (pa_cons (pv 0) (pa_cons (pv 1) pa_nil))) (pa_cons (pe_call PK.ok hr2 rfl PK.m PK.k PK.b .nil pass0 (pa_cons (pv 0) (pa_cons (pv 1) pa_nil))) pa_nil))) (pg_tup rfl (pgs_cons (pg_name (i := 6) scNmR.nd rfl (Or.inr rfl)) (pgs_cons (pg_name (i := 7) scNmR.nd rfl (Or.inr rfl)) pgs_nil)))))
      (pss_cons (by exact (ps_setLc (i := 2) (own := [("_law_k", 8)]) (g := gName 8) (tt := tNot (tB (tCall spNum [] (fun _ _ _ => False) (tCons (tOp (rIxT K) (tTup (tCons (tVar 6) (tCons (tVar 7) tNil))) (tVar 8)) (tCons (tC (.int 1)) (tCons (tOp (rI CPow fun i j => .int (i ^ j.toNat)) (tC (.int 10)) (tC (.int 60))) tNil)))))) (te := tVar 8) rfl scNmR.nd rfl rfl (sw_true rfl rfl rfl (by decide +kernel)) (pi_range1 rfl mR (pa_cons pe_int pa_nil))
          (blkOk_by (N := nNmR) (sc := defScope sNmR) (by decide +kernel)) (fun _ _ _ _ _ => by exact (pg_name (i := 8) scNmR.nd rfl (Or.inl rfl))) (fun _ _ _ _ _ => by exact (pts_one (pt_not (pt_val (pe_call NU.ok hr1 rfl NU.m NU.k NU.b .nil pass0 (pa_cons (pe_ix ix_tup (pe_tup (pa_cons (pv 6) (pa_cons (pv 7) pa_nil))) (pv 8) (fun _ _ => rfl)) (pa_cons pe_int (pa_cons (pe_op op_pow pe_int pe_int) pa_nil))))))))
          (fun _ _ _ _ _ => by exact (pv 8))))
      (pss_cons (by exact (ps_set (i := 3) scNmR.nd rfl (.inl rfl) (pe_ifExp (pt_cmpR op_in_seq pe_int (pv 2) (by rfl)) (pe_tup (pa_cons pe_str (pa_cons pe_str (pa_cons pe_bl pa_nil)))) pe_non)))
      (pss_cons (by exact (ps_set (i := 4) scNmR.nd rfl (.inl rfl) (pe_lst (pa_cons (pe_goL mk GT hr8 rfl (lamS_by (sc := defScope sNmR) (by decide +kernel)) rfl (fun _ _ _ _ _ => rfl) (fun A2 outer2 s2 H2 E2 f2 c2 r => by exact (pe_make W.M.number.made W.M.number.ok r rfl W.N.number W.M.number.b .nil (passes_call (takes_of rfl rfl rfl rfl) (fun _ _ _ _ h => h)) (pa_cons (pv 6) pa_nil)))) pa_nil))))
      (pss_cons (by exact (ps_expr (pe_bm PySem.F.plainAttrs_list PySem.F.slot_list_append PySem.F.type_list_append mt_append (pv 4) (pa_cons (pe_goL mk GT hr8 rfl (lamS_by (sc := defScope sNmR) (by decide +kernel)) rfl (fun _ _ _ _ _ => rfl) (fun A2 outer2 s2 H2 E2 f2 c2 r => by exact (pe_makeK0 W.M.count.made W.M.count.ok r rfl W.N.count W.M.countK (passes_call (takes_of rfl rfl rfl rfl) (fun _ _ _ _ h => h)) (pk_cons (pv 6) pk_nil)))) pa_nil))))
      (pss_cons (by exact (ps_for PassesOwn.never rfl (pi_list (pv 4)) (by exact (pg_name (i := 5) scNmR.nd rfl (Or.inl rfl))) (pss_one (by exact (ps_if (PW.pt (pw_or (PW.pt (pw_and (pt_cmp (pc_notN (pv 3))) (pw_and1 (pt_cmpR (op_neD hu6) (pv 5) (pv 3) (nomark _))))) (pw_or1 (PW.pt (pw_and (pt_cmp (pc_isN (pv 3))) (pw_and1 (pt_cmpR op_ne (pe_callB (call_repr quiet hu6) (by rfl) mRe (by decide +kernel) (pa_cons (pe_or2 (pe_prop (pv 5) c9 W.G.num.prop W.G.num.ok hr2 W.G.num.b .nil pass0 rfl) (pe_prop (pv 5) c17 W.G.count.prop W.G.count.ok hr2 W.G.count.b .nil pass0 rfl)) pa_nil)) (pe_callB (call_repr quiet hu6) (by rfl) mRe (by decide +kernel) (pa_cons (pv 6) pa_nil)) (nomark _)))))))) (pss_one (by exact (ps_ret pe_bl))) pss_nil)))))
      (pss_cons (by exact (ps_set (i := 5) scNmR.nd rfl (.inl rfl) (pe_goL mk GT hr8 rfl (lamS_by (sc := defScope sNmR) (by decide +kernel)) rfl (fun _ _ _ _ _ => rfl) (fun A2 outer2 s2 H2 E2 f2 c2 r => by exact (pe_makeK0 W.M.each.made W.M.each.ok r rfl W.N.each W.M.eachK (passes_call (takes_of rfl rfl rfl rfl) (fun _ _ _ _ h => h)) (pk_cons (pv 7) (pk_cons (pv 6) pk_nil)))))))
      (pss_cons (by exact (ps_if (pt_cmpR (op_neNil hu6) (pv 2) (pe_lst pa_nil) (nomark _)) (pss_one (by exact (ps_ret (pe_cmpR (op_eqD hu6) (pv 5) (pe_tup (pa_cons pe_str (pa_cons (pe_ix ix_list (pe_lst (pa_cons pe_str (pa_cons pe_str pa_nil))) (pe_ix ix_list (pv 2) pe_int (fun _ _ => rfl)) (fun _ _ => rfl)) (pa_cons pe_bl pa_nil)))) (nomark _))))) pss_nil))
      (pss_cons (by exact (ps_if (PW.pt (pw_or (pt_cmpR op_ne (pe_callB (call_repr quiet hu6) (by rfl) mRe (by decide +kernel) (pa_cons (pe_tup (pa_cons (pe_prop (pv 5) c10 W.G.step.prop W.G.step.ok hr2 W.G.step.b .nil pass0 rfl) (pa_cons (pe_prop (pv 5) c10 W.G.startE.prop W.G.startE.ok hr2 W.G.startE.b .nil pass0 rfl) pa_nil))) pa_nil)) (pe_callB (call_repr quiet hu6) (by rfl) mRe (by decide +kernel) (pa_cons (pe_tup (pa_cons (pv 6) (pa_cons (pv 7) pa_nil))) pa_nil)) (nomark _)) (pw_or (pt_cmpR (op_aNe W.k W.E hr12) (pv 5) (pe_make W.M.each.made W.M.each.ok hr6 rfl W.N.each W.M.each.b .nil passN (pa_cons (pv 6) (pa_cons (pv 7) pa_nil))) (nomark _)) (pw_or1 (pt_cmpR op_ne (pe_cmpR (op_a W.k W.E hr11) (pv 5) (pe_make W.M.each.made W.M.each.ok hr6 rfl W.N.each W.M.each.b .nil passN (pa_cons (pv 7) (pa_cons (pv 6) pa_nil))) (nomark _)) (pe_cmpR op_eq (pv 6) (pv 7) (nomark _)) (nomark _)))))) (pss_one (by exact (ps_ret pe_bl))) pss_nil))
      (pss_cons (by exact (ps_if (PW.pt (pw_or (pt_cmpR (op_a W.k W.E hr11) (pe_make W.M.number.made W.M.number.ok hr6 rfl W.N.number W.M.number.b .nil passN (pa_cons (pv 6) pa_nil)) (pe_make W.M.count.made W.M.count.ok hr6 rfl W.N.count W.M.count.b .nil passN (pa_cons (pv 6) pa_nil)) (nomark _)) (pw_or (pt_val (pe_callB call_isi (by rfl) W.N.isM (by decide +kernel) (pa_cons (pe_make W.M.count.made W.M.count.ok hr6 rfl W.N.count W.M.count.b .nil passN (pa_cons (pv 6) pa_nil)) (pa_cons (pe_glob (v := .ref CA) rfl W.N.adr rfl) pa_nil)))) (pw_or (pt_cmpR (op_a W.k W.E hr11) (pe_make W.M.count.made W.M.count.ok hr6 rfl W.N.count W.M.count.b .nil passN (pa_cons (pv 6) pa_nil)) (pv 6) (nomark _)) (pw_or1 (pt_cmpR (op_a W.k W.E hr11) (pe_make W.M.number.made W.M.number.ok hr6 rfl W.N.number W.M.number.b .nil passN (pa_cons (pv 6) pa_nil)) (pe_make W.M.each.made W.M.each.ok hr6 rfl W.N.each W.M.each.b .nil passN (pa_cons (pv 6) (pa_cons (pv 6) pa_nil))) (nomark _))))))) (pss_one (by exact (ps_ret pe_bl))) pss_nil))
      (pss_one (by exact (ps_ret (pe_and (pe_cmpR op_eq (pe_cmpR (op_a W.k W.E hr11) (pe_make W.M.number.made W.M.number.ok hr6 rfl W.N.number W.M.number.b .nil passN (pa_cons (pv 6) pa_nil)) (pe_make W.M.number.made W.M.number.ok hr6 rfl W.N.number W.M.number.b .nil passN (pa_cons (pv 7) pa_nil)) (nomark _)) (pe_cmpR op_eq (pv 6) (pv 7) (nomark _)) (nomark _)) (pe_one (pe_cmpR op_eq (pe_cmpR (op_a W.k W.E hr11) (pe_make W.M.count.made W.M.count.ok hr6 rfl W.N.count W.M.count.b .nil passN (pa_cons (pv 6) pa_nil)) (pe_make W.M.count.made W.M.count.ok hr6 rfl W.N.count W.M.count.b .nil passN (pa_cons (pv 7) pa_nil)) (nomark _)) (pe_cmpR op_eq (pv 6) (pv 7) (nomark _)) (nomark _))))))))))))))))), ?_⟩
    obtain ⟨kv0, _, _, pp0⟩ := id pen
    refine ⟨_, _, rfl, rfl, ⟨by decide, by decide, by decide⟩, _, rfl, _, _, rfl, rfl, _, rfl, d, c0, n, ns, rfl, pen, by omega, fun v e H1 hv fv pen1 b1 => ⟨(by show 11 ≤ sizeLine; decide), fun L nL => ?_⟩⟩
    have sL := same_upd (o := .lst [.int 1, .int 2, .int 7, .int (10 ^ (30 : Int).toNat), .int 0, .int (-1), .bl true, .non, .str "1", .bl (decide ((2 : Int) > 1)), v]) nL
    have pen2 := pen1.keep sL
    obtain ⟨kv2, _, _, pp2⟩ := id pen2
    have T1 := Tabs.same (Tabs.but hT b1 pp0.dc) sL
    have hv1 := (hv.imp (M := fun a => a ≠ d) fun _ z => z.1).same sL
    refine ⟨_, rfl, _, rfl, d, c0, n + 1, ns, _, rfl, pen2, by omega, .inl ⟨L, _, rfl, upd_same, (by show 0 < 11; decide), (by show 11 < 1000000; decide), fun va H2 hva pen3 b3 => ?_⟩⟩
    have hL2 := b3 _ _ upd_same (ne_of upd_same pp2.dc (by intro z; cases z))
    obtain ⟨kv3, _, _, pp3⟩ := id pen3
    have hv2 := hv1.but b3 (fun z => z rfl)
    have T2 := Tabs.but T1 b3 pp2.dc
    refine ⟨_, rfl, _, rfl, d, c0, n + 1 + 1, ns, _, rfl, pen3, by omega, .inl ⟨L, _, rfl, hL2, (by show 0 < 11; decide), (by show 11 < 1000000; decide), fun vb H3 hvb pen4 b4 => ⟨(by show 2 ≤ sizeLine; decide), fun t nt => ?_⟩⟩⟩
    have hv3 := hv2.but b4 (fun z => z rfl)
    have T3 := Tabs.but T2 b4 pp3.dc
    have st := same_upd (o := .tup [va, vb]) nt
    obtain ⟨ea, za⟩ := num_of (hv3.same st) fv va hva
    obtain ⟨eb, zb⟩ := num_of (hv3.same st) fv vb hvb
    have pen5 := pen4.keep st
    have T5 := Tabs.same T3 st
    refine ⟨t, _, rfl, SqT.of upd_same, rfl, _, _, rfl, _, _, rfl, rfl, ?_⟩
    generalize upd H3 t (.tup [va, vb]) = H5 at za zb pen5 T5 ⊢
    clear hv3 hv2 hv1 T3 T2 T1 st b4 b3 b1 hva hvb
    refine ⟨_, rfl, by decide, by decide, fun W5 nW => ?_⟩
    obtain ⟨za, na⟩ := za
    obtain ⟨zb, nb⟩ := zb
    -- which of the two are no numbers
    have wl : ∀ j : Nat, j < 2 → ∃ (x : V) (e : PyData), ([va, vb] : List V)[j]? = some x ∧ ([ea, eb] : List PyData)[j]? = some e ∧ Dz (fun a => a ≠ d) H5 x e ∧ numD e 1 (10 ^ 60) = cntD e := fun j hj => by
      rcases j with _ | _ | j
      · exact ⟨va, ea, rfl, rfl, za, na⟩
      · exact ⟨vb, eb, rfl, rfl, zb, nb⟩
      · omega
    refine lc_range (fun j Y => (∃ ws : List Nat, Y W5 = some (.lst (ws.map fun j : Nat => V.int (j : Int))) ∧ ws = (List.range j).filter (fun i => !(([ea, eb] : List PyData)[i]?.any cntD)) ∧ ws.length ≤ j) ∧ Same H5 Y) ⟨⟨[], upd_same, rfl, Nat.le_refl _⟩, same_upd nW⟩ (fun j Y hj p => ?_) (fun H6 p => ?_)
    · obtain ⟨⟨ws, pW, wh, wn⟩, pS⟩ := p
      have hj2 : j < 2 := hj
      obtain ⟨x, e2, hx, he, zx, nx⟩ := wl j hj2
      refine ⟨rfl, ?_⟩
      refine ⟨_, rfl, _, rfl, (by show 2 ≤ sizeLine; decide), fun t2 nt2 => ⟨_, rfl, t2, _, _, _, rfl, rfl, SqT.of upd_same, (by rw [Int.zero_add]; exact atI_nat hx), ?_⟩⟩
      have s2 := same_upd (o := .tup [va, vb]) nt2
      refine ⟨_, _, rfl, rfl, ⟨by decide, by decide, by decide⟩, fun a => a ≠ d, x, e2, 1, 10 ^ (60 : Int).toNat, rfl, (zx.same pS).same s2, fun Z sZ => ⟨_, rfl, ?_⟩⟩
      have n2 : numD e2 1 (10 ^ (60 : Int).toNat) = cntD e2 := nx
      rw [n2]
      have sY := s2.trans sZ
      have nxt : (List.range (j + 1)).filter (fun i => !(([ea, eb] : List PyData)[i]?.any cntD)) = (List.range j).filter (fun i => !(([ea, eb] : List PyData)[i]?.any cntD)) ++ (if cntD e2 = true then [] else [j]) := by
        rw [List.range_succ, List.filter_append]
        congr 1
        rw [List.filter_cons, he, List.filter_nil]
        show (if (!cntD e2) = true then [j] else []) = _
        cases cntD e2 <;> rfl
      cases ec : cntD e2 with
      | true =>
        show (if (!true) = true then _ else _)
        rw [if_neg (by decide)]
        refine ⟨⟨ws, sY _ _ pW, ?_, by omega⟩, pS.trans sY⟩
        rw [nxt, wh, ec, if_pos rfl, List.append_nil]
      | false =>
        show (if (!false) = true then _ else _)
        rw [if_pos (by decide)]
        refine ⟨_, rfl, _, sY _ _ pW, ?_, ⟨ws ++ [j], ?_, ?_, ?_⟩, fun b u eb => ?_⟩
        · rw [List.length_map]
          exact Nat.lt_of_le_of_lt (show ws.length ≤ 3 by omega) (by decide)
        · rw [upd_same, List.map_append, Int.zero_add]
          rfl
        · rw [nxt, wh, ec, if_neg (by decide)]
        · rw [List.length_append]
          exact Nat.add_le_add wn (Nat.le_refl 1)
        · rw [upd_ne (ne_of_none eb nW)]
          exact sY _ _ (pS _ _ eb)
    · obtain ⟨⟨ws, hW, wh, wn⟩, s56⟩ := p
      have zaa := za.same s56
      have zbb := zb.same s56
      have pen6 := pen5.keep s56
      have T6 := Tabs.same T5 s56
      have wh2 : ws = (if cntD ea = true then [] else [0]) ++ (if cntD eb = true then [] else [1]) := by
        rw [wh]
        show (List.range 2).filter _ = _
        rw [show List.range 2 = [0, 1] from rfl, List.filter_cons, List.filter_cons, List.filter_nil]
        show (if (!cntD ea) = true then 0 :: (if (!cntD eb) = true then [1] else []) else (if (!cntD eb) = true then [1] else [])) = _
        cases cntD ea <;> cases cntD eb <;> rfl
      clear wh wl
      refine ⟨_, rfl, W5, _, rfl, .inl (SqL.of hW), rfl, (by rw [List.all_map]; exact List.all_eq_true.mpr fun _ _ => rfl), _, rfl, ?_⟩
      rw [if_neg (by decide)]
      -- what is due
      have wrongs : ∀ (N1 N2 : Prop), True := fun _ _ => trivial
      cases ca : cntD ea with
      | false =>
        have in0 : inV (.int 0) (ws.map fun j : Nat => V.int (j : Int)) = true := by
          rw [wh2, ca]
          cases cntD eb <;> decide
        rw [in0]
        obtain ⟨wr, ew⟩ : ∃ wr, ws = 0 :: wr := by
          rw [wh2, ca]
          exact ⟨_, rfl⟩
        subst ew
        refine iteT ⟨(by show 3 ≤ sizeLine; decide), fun u nu => ?_⟩
        have su := same_upd (o := .tup [.str "wrong", .str "number", .bl true]) nu
        have T7 := Tabs.same T6 su
        have za7 := zaa.same su
        have zb7 := zbb.same su
        have hu7 : (upd H6 u (.tup [.str "wrong", .str "number", .bl true])) u = some (.tup [.str "wrong", .str "number", .bl true]) := upd_same
        have hW7 := su _ _ hW
        have pen7 := pen6.keep su
        generalize upd H6 u (.tup [.str "wrong", .str "number", .bl true]) = H7 at za7 zb7 hu7 hW7 pen7 T7 ⊢
        refine ⟨T7, fun H8 e8 T8 => ?_⟩
        have za8 := za7.ext e8
        refine ⟨_, rfl, fun x dx nx nd ne => ⟨x, dx, (fun a => a ≠ d), va, ea, rfl, upd_same, za8.same (made_start nx nd), fun yes => (by rw [ca] at yes; cases yes), fun _ dd HE nE sE hE => ⟨rfl, dd, _, _, rfl, hE, look1, fun p1 H9 _ s9a hp1 => ⟨(by show 1 ≤ sizeLine; decide), fun TL nTL => ?_⟩⟩⟩⟩
        have s9 := ((made_start nx nd).trans sE).trans s9a
        have sTL := same_upd (o := .lst [.ref p1]) nTL
        have x9 : ExtN H7 _ := ExtN.trans e8 (Same.extN (s9.trans sTL))
        have T9 := Tabs.same T8 (s9.trans sTL)
        have hTL : (upd H9 TL (.lst [.ref p1])) TL = some (.lst [.ref p1]) := upd_same
        have hp1b := sTL _ _ hp1
        generalize upd H9 TL (.lst [.ref p1]) = HA at x9 T9 hTL hp1b ⊢
        refine ⟨_, rfl, .inl ⟨rfl, _, SqL.of hTL⟩, T9, fun HB eB TB2 => ?_⟩
        have xB := ExtN.trans x9 eB
        have zaB := za7.ext xB
        refine ⟨_, rfl, rfl, rfl, fun x dx nx nd ne => ⟨x, dx, (fun a => a ≠ d), va, ea, rfl, upd_same, zaB.same (made_start nx nd), fun yes => (by rw [ca] at yes; cases yes), fun _ dd2 HF nF sF hF => ⟨rfl, dd2, _, _, rfl, hF, look1, fun p2 HC _ sCa hp2 => ?_⟩⟩⟩
        have sC := ((made_start nx nd).trans sF).trans sCa
        have hTLC := sC _ _ (eB _ _ hTL (fun _ z => by cases z))
        have hp1C := sC _ _ (eB _ _ hp1b (fun _ z => by cases z))
        have xC := ExtN.trans xB (Same.extN sC)
        have TC := Tabs.same TB2 sC
        refine ⟨TL, _, .ref p2, rfl, rfl, hTLC, (by show 1 < sizeLine; decide), ?_⟩
        have nTLp : ∀ q z, HC q = some (.tup z) → q ≠ TL := fun q z e => ne_of e hTLC (by intro z; cases z)
        have hp1D : (upd HC TL (.lst [.ref p1, .ref p2])) p1 = some (.tup [.str "wrong", .str "number", .bl true]) := by rw [upd_ne (nTLp _ _ hp1C)]; exact hp1C
        have hp2D : (upd HC TL (.lst [.ref p1, .ref p2])) p2 = some (.tup [.str "wrong", .str "number", .bl true]) := by rw [upd_ne (nTLp _ _ hp2)]; exact hp2
        have huC := xC _ _ hu7 (fun _ z => by cases z)
        have huD : (upd HC TL (.lst [.ref p1, .ref p2])) u = some (.tup [.str "wrong", .str "number", .bl true]) := by rw [upd_ne (nTLp _ _ huC)]; exact huC
        have TD : Tabs T (upd HC TL (.lst [.ref p1, .ref p2])) := Tabs.putL TC hTLC
        have hTLD : (upd HC TL (.lst [.ref p1, .ref p2])) TL = some (.lst [.ref p1, .ref p2]) := upd_same
        have x79 : ExtN H7 H9 := ExtN.trans e8 (Same.extN s9)
        obtain ⟨_, _, _, pp9⟩ := pen7.extN x79
        obtain ⟨kvC, tC_, lC, ppC⟩ := pen7.extN xC
        have penD : PenAt (upd HC TL (.lst [.ref p1, .ref p2])) d c0 (n + 1 + 1 + 1) ns := ⟨kvC, tC_, lC, by rw [upd_ne (ne_of ppC.dc hTLC (by intro z; cases z))]; exact ppC.dc, ppC.vc, ppC.vt, ppC.vl, ppC.t0, ppC.tn, ppC.sz, by rw [upd_ne (ne_of_none pp9.cs nTL)]; exact ppC.cs, ppC.cl⟩
        have kD : Keeps (fun a => a ≠ d) H7 (upd HC TL (.lst [.ref p1, .ref p2])) := fun b o _ e t => by
          rw [upd_ne (ne_of_none (x79 b o e t) nTL)]
          exact xC b o e t
        have zaD := za7.keep kD (fun _ z => z) _ _
        have zbD := zb7.keep kD (fun _ z => z) _ _
        have hWD : (upd HC TL (.lst [.ref p1, .ref p2])) W5 = some (.lst ((0 :: wr).map fun j : Nat => V.int (j : Int))) := by
          rw [upd_ne (ne_of_none (x79 _ _ hW7 (fun _ z => by cases z)) nTL)]
          exact xC _ _ hW7 (fun _ z => by cases z)
        show tSeq _ _ _ _ (upd HC TL (.lst [.ref p1, .ref p2]))
        generalize upd HC TL (.lst [.ref p1, .ref p2]) = HD at hp1D hp2D huD TD hTLD penD zaD zbD hWD ⊢
        have sok : PyData.strOk "number" = true := by decide +kernel
        refine ⟨_, rfl, TL, rfl, ⟨_, SqL.of hTLD⟩, for_list (K := K) (a := TL) (xs := [.ref p1, .ref p2]) (fun i σ Y => (∃ y5 y8 : Option V, σ = [some (.ref d), some (.ref L), some (.ref W5), some (.ref u), some (.ref TL), y5, some va, some vb, y8]) ∧ Same HD Y) ⟨⟨_, _, rfl⟩, fun _ _ z => z⟩ (fun i σ Y _ p => SqL.of (p.2 _ _ hTLD)) ?_ ?_⟩
        · rintro i y σ Y hy ⟨⟨y5, y8, rfl⟩, sY⟩
          obtain ⟨py, rfl, hpy⟩ : ∃ py, y = .ref py ∧ HD py = some (.tup [.str "wrong", .str "number", .bl true]) := by
            rcases i with _ | _ | i
            · exact ⟨p1, (Option.some.inj hy).symm, hp1D⟩
            · exact ⟨p2, (Option.some.inj hy).symm, hp2D⟩
            · simp at hy
          refine ⟨_, rfl, _, rfl, ?_⟩
          rw [decide_eq_false (show ¬ V.ref u = V.non by intro z; cases z)]
          refine iteT ⟨_, rfl, _, rfl, wrongD "number", wrongD "number", wrong_dp (sY _ _ hpy), wrong_dp (sY _ _ huD), wrong_shaped sok, wrong_shaped sok, _, rfl, ?_⟩
          rw [SeqAt.eqv_refl _ (wrong_lay sok)]
          refine iteF ⟨_, rfl, _, rfl, ?_⟩
          rw [decide_eq_false (show ¬ V.ref u = V.non by intro z; cases z)]
          exact iteF (iteF ⟨⟨_, _, rfl⟩, sY⟩)
        · rintro σ Y ⟨⟨y5, y8, rfl⟩, sY⟩
          have TE := Tabs.same TD sY
          have zaE := zaD.same sY
          have zbE := zbD.same sY
          refine ⟨TE, fun HF2 eF TF => ?_⟩
          have zaF := zaE.ext eF
          have zbF := zbE.ext eF
          refine ⟨_, rfl, _, rfl, rfl, rfl, fun x dx nx nd ne => ⟨x, dx, (fun a => a ≠ d), (fun a => a ≠ d), va, vb, ea, eb, rfl, upd_same, zaF.same (made_start nx nd), zbF.same (made_start nx nd), fun yes => (by rw [ca] at yes; cases yes), fun _ dd HE nE sE hE => ⟨rfl, dd, _, _, rfl, hE, look1, fun p3 HG _ s9a hp3 => ?_⟩, fun yes => (by rw [ca] at yes; cases yes)⟩⟩
          have sG := ((made_start nx nd).trans sE).trans s9a
          have hWG := sG _ _ (eF _ _ (sY _ _ hWD) (fun _ z => by cases z))
          have penG : PenAt HG d c0 (n + 1 + 1 + 1) ns := ((penD.keep sY).extN eF).keep sG
          have TG := Tabs.same TF sG
          refine ⟨_, rfl, (by show 0 ≤ sizeLine; decide), fun e0 ne0 => ⟨W5, e0, _, rfl, rfl, SqL.of (same_upd ne0 _ _ hWG), SqL.of upd_same, ne_of_none hWG ne0, _, rfl, iteT ?_⟩⟩
          have s0 := same_upd (o := .lst []) ne0
          refine ⟨_, rfl, (by show 2 ≤ sizeLine; decide), fun LS nLS => ⟨_, rfl, W5, _, _, _, rfl, rfl, SqL.of (same_upd nLS _ _ (s0 _ _ hWG)), atI_nat (j := 0) rfl, LS, _, _, _, rfl, rfl, SqL.of upd_same, atI_nat (j := 0) rfl, (by show 3 ≤ sizeLine; decide), fun tt ntt => ?_⟩⟩
          have sLS := same_upd (o := .lst [.str "step", .str "start"]) nLS
          have stt := same_upd (o := .tup [.str "wrong", .str "step", .bl true]) ntt
          have sok2 : PyData.strOk "step" = true := by decide +kernel
          have sall := s0.trans (sLS.trans stt)
          refine ⟨wrongD "step", wrongD "step", wrong_dp (sall _ _ hp3), wrong_dp upd_same, wrong_shaped sok2, wrong_shaped sok2, ?_⟩
          rw [SeqAt.eqv_refl _ (wrong_lay sok2)]
          exact q _ ((penG.keep sall).le (by omega)) (Tabs.same TG sall)
      | true =>
        obtain ⟨ka, rfl, rfl, ka1⟩ := cnt_int zaa ca
        have na2 : ka ≤ 10 ^ 60 := by
          have h : (decide (1 ≤ ka) && decide (ka ≤ 10 ^ 60)) = decide (1 ≤ ka) := na
          rw [decide_eq_true ka1, Bool.true_and] at h
          exact of_decide_eq_true h
        have h10 : ((10 : Int) ^ 60) = ((10 ^ 60 : Nat) : Int) := by decide +kernel
        have sha : Shows (.int ka) := (fine_int (by rw [h10] at na2; omega)).sh
        have in0 : inV (.int 0) (ws.map fun j : Nat => V.int (j : Int)) = false := by
          rw [wh2, ca]
          cases cntD eb <;> decide
        rw [in0]
        refine iteF ⟨T6, fun H8 e8 T8 => ?_⟩
        refine ⟨_, rfl, fun x1 dx1 nx nd ne => ⟨x1, dx1, (fun a => a ≠ d), _, _, rfl, upd_same, .int ka, fun _ H9 hx1 b9 => ⟨rfl, (by show 1 ≤ sizeLine; decide), fun TL nTL => ?_⟩, fun no => (by rw [ca] at no; cases no)⟩⟩
        have s9 := made_same nx nd b9
        have sTL := same_upd (o := .lst [.ref x1]) nTL
        have T9 := Tabs.same T8 (s9.trans sTL)
        have hTL : (upd H9 TL (.lst [.ref x1])) TL = some (.lst [.ref x1]) := upd_same
        have hx1b := sTL _ _ hx1
        have x9 : ExtN H6 (upd H9 TL (.lst [.ref x1])) := ExtN.trans e8 (Same.extN (s9.trans sTL))
        have x79 : ExtN H6 H9 := ExtN.trans e8 (Same.extN s9)
        generalize upd H9 TL (.lst [.ref x1]) = HA at x9 T9 hTL hx1b ⊢
        refine ⟨_, rfl, .inl ⟨rfl, _, SqL.of hTL⟩, T9, fun HB eB TB2 => ?_⟩
        have xB := ExtN.trans x9 eB
        refine ⟨_, rfl, rfl, rfl, fun x2 dx2 nx2 nd2 ne2 => ⟨x2, dx2, (fun a => a ≠ d), _, _, rfl, upd_same, .int ka, fun _ HC hx2 bC => ⟨rfl, ?_⟩, fun no => (by rw [ca] at no; cases no)⟩⟩
        have sC := made_same nx2 nd2 bC
        have hTLC := sC _ _ (eB _ _ hTL (fun _ z => by cases z))
        have hx1C := sC _ _ (eB _ _ hx1b (fun _ z => by cases z))
        have xC := ExtN.trans xB (Same.extN sC)
        have TC := Tabs.same TB2 sC
        refine ⟨TL, _, .ref x2, rfl, rfl, hTLC, (by show 1 < sizeLine; decide), ?_⟩
        have hx1D : (upd HC TL (.lst [.ref x1, .ref x2])) x1 = some (.ins (C 9) dx1 [("_number", .int ka)]) := by rw [upd_ne (ne_of hx1C hTLC (by intro z; cases z))]; exact hx1C
        have hx2D : (upd HC TL (.lst [.ref x1, .ref x2])) x2 = some (.ins (C 17) dx2 [("_number", .int ka)]) := by rw [upd_ne (ne_of hx2 hTLC (by intro z; cases z))]; exact hx2
        have TD : Tabs T (upd HC TL (.lst [.ref x1, .ref x2])) := Tabs.putL TC hTLC
        have hTLD : (upd HC TL (.lst [.ref x1, .ref x2])) TL = some (.lst [.ref x1, .ref x2]) := upd_same
        obtain ⟨_, _, _, pp9⟩ := pen6.extN x79
        obtain ⟨kvC, tC_, lC, ppC⟩ := pen6.extN xC
        have penD : PenAt (upd HC TL (.lst [.ref x1, .ref x2])) d c0 (n + 1 + 1 + 1) ns := ⟨kvC, tC_, lC, by rw [upd_ne (ne_of ppC.dc hTLC (by intro z; cases z))]; exact ppC.dc, ppC.vc, ppC.vt, ppC.vl, ppC.t0, ppC.tn, ppC.sz, by rw [upd_ne (ne_of_none pp9.cs nTL)]; exact ppC.cs, ppC.cl⟩
        have kD : Keeps (fun a => a ≠ d) H6 (upd HC TL (.lst [.ref x1, .ref x2])) := fun b o _ e t => by
          rw [upd_ne (ne_of_none (x79 b o e t) nTL)]
          exact xC b o e t
        have zbD := zbb.keep kD (fun _ z => z) _ _
        have hWD : (upd HC TL (.lst [.ref x1, .ref x2])) W5 = some (.lst (ws.map fun j : Nat => V.int (j : Int))) := by
          rw [upd_ne (ne_of_none (x79 _ _ hW (fun _ z => by cases z)) nTL)]
          exact xC _ _ hW (fun _ z => by cases z)
        show tSeq _ _ _ _ (upd HC TL (.lst [.ref x1, .ref x2]))
        generalize upd HC TL (.lst [.ref x1, .ref x2]) = HD at hx1D hx2D TD hTLD penD zbD hWD ⊢
        refine ⟨_, rfl, TL, rfl, ⟨_, SqL.of hTLD⟩, for_list (K := K) (a := TL) (xs := [.ref x1, .ref x2]) (fun i σ Y => (∃ y5 y8 : Option V, σ = [some (.ref d), some (.ref L), some (.ref W5), some .non, some (.ref TL), y5, some (.int ka), some vb, y8]) ∧ Same HD Y) ⟨⟨_, _, rfl⟩, fun _ _ z => z⟩ (fun i σ Y _ p => SqL.of (p.2 _ _ hTLD)) ?_ ?_⟩
        · rintro i y σ Y hy ⟨⟨y5, y8, rfl⟩, sY⟩
          refine ⟨_, rfl, _, rfl, ?_⟩
          rw [decide_eq_true (rfl : V.non = V.non)]
          refine iteF (iteF ⟨_, rfl, _, rfl, ?_⟩)
          rw [decide_eq_true (rfl : V.non = V.non)]
          refine iteT ?_
          rcases i with _ | _ | i
          · obtain rfl : V.ref x1 = y := Option.some.inj hy
            exact .inl ⟨_, rfl, x1, dx1, _, rfl, sY _ _ hx1D, x1, dx1, _, .int ka, rfl, sY _ _ hx1D, look1, _, .int ka, rfl, .dp (.int _), sha, _, rfl, _, .int ka, rfl, .dp (.int _), sha, rfl, false, (by rw [decide_eq_true rfl]; rfl), iteF ⟨⟨_, _, rfl⟩, sY⟩⟩
          · obtain rfl : V.ref x2 = y := Option.some.inj hy
            exact .inr ⟨_, rfl, x2, dx2, _, rfl, sY _ _ hx2D, x2, dx2, _, .int ka, rfl, sY _ _ hx2D, look1, _, .int ka, rfl, .dp (.int _), sha, _, rfl, _, .int ka, rfl, .dp (.int _), sha, rfl, false, (by rw [decide_eq_true rfl]; rfl), iteF ⟨⟨_, _, rfl⟩, sY⟩⟩
          · simp at hy
        · rintro σ Y ⟨⟨y5, y8, rfl⟩, sY⟩
          have TE := Tabs.same TD sY
          have zbE := zbD.same sY
          refine ⟨TE, fun HF eF TF => ?_⟩
          have zbF := zbE.ext eF
          have hWF := eF _ _ (sY _ _ hWD) (fun _ z => by cases z)
          have penF : PenAt HF d c0 (n + 1 + 1 + 1) ns := (penD.keep sY).extN eF
          cases cb : cntD eb with
          | false =>
            rw [ca, cb] at wh2
            have wh2 : ws = [1] := wh2
            subst wh2
            refine ⟨_, rfl, _, rfl, rfl, rfl, fun x dx nx nd ne => ⟨x, dx, (fun a => a ≠ d), (fun a => a ≠ d), _, vb, _, eb, rfl, upd_same, .int ka, zbF.same (made_start nx nd), fun _ yes => (by rw [cb] at yes; cases yes), fun no => (by rw [ca] at no; cases no), fun _ _ dd HE nE sE hE => ⟨rfl, dd, _, _, rfl, hE, look1, fun p3 HG _ s9a hp3 => ?_⟩⟩⟩
            have sG := ((made_start nx nd).trans sE).trans s9a
            have hWG := sG _ _ hWF
            have penG : PenAt HG d c0 (n + 1 + 1 + 1) ns := penF.keep sG
            have TG := Tabs.same TF sG
            refine ⟨_, rfl, (by show 0 ≤ sizeLine; decide), fun e0 ne0 => ⟨W5, e0, _, rfl, rfl, SqL.of (same_upd ne0 _ _ hWG), SqL.of upd_same, ne_of_none hWG ne0, _, rfl, iteT ?_⟩⟩
            have s0 := same_upd (o := .lst []) ne0
            refine ⟨_, rfl, (by show 2 ≤ sizeLine; decide), fun LS nLS => ⟨_, rfl, W5, _, _, _, rfl, rfl, SqL.of (same_upd nLS _ _ (s0 _ _ hWG)), atI_nat (j := 0) rfl, LS, _, _, _, rfl, rfl, SqL.of upd_same, atI_nat (j := 1) rfl, (by show 3 ≤ sizeLine; decide), fun tt ntt => ?_⟩⟩
            have sLS := same_upd (o := .lst [.str "step", .str "start"]) nLS
            have stt := same_upd (o := .tup [.str "wrong", .str "start", .bl true]) ntt
            have sok2 : PyData.strOk "start" = true := by decide +kernel
            have sall := s0.trans (sLS.trans stt)
            refine ⟨wrongD "start", wrongD "start", wrong_dp (sall _ _ hp3), wrong_dp upd_same, wrong_shaped sok2, wrong_shaped sok2, ?_⟩
            rw [SeqAt.eqv_refl _ (wrong_lay sok2)]
            exact q _ ((penG.keep sall).le (by omega)) (Tabs.same TG sall)
          | true =>
            rw [ca, cb] at wh2
            have wh2 : ws = [] := wh2
            subst wh2
            obtain ⟨kb, rfl, rfl, kb1⟩ := cnt_int zbF cb
            have nb2 : kb ≤ 10 ^ 60 := by
              have h : (decide (1 ≤ kb) && decide (kb ≤ 10 ^ 60)) = decide (1 ≤ kb) := nb
              rw [decide_eq_true kb1, Bool.true_and] at h
              exact of_decide_eq_true h
            have shp : Shows (.tuple [.int ka, .int kb]) := shows_ints (by rw [h10] at na2; omega) (by rw [h10] at nb2; omega)
            have na0 : cntD (.int ka) = false → False := fun no => by rw [ca] at no; cases no
            have nb0 : cntD (.int kb) = false → False := fun no => by rw [cb] at no; cases no
            refine ⟨_, rfl, _, rfl, rfl, rfl, fun x3 dx3 nx nd ne => ⟨x3, dx3, (fun a => a ≠ d), (fun a => a ≠ d), _, _, _, _, rfl, upd_same, .int ka, .int kb, fun _ _ HG hx3 bG => ⟨rfl, ?_⟩, fun no => (na0 no).elim, fun _ no => (nb0 no).elim⟩⟩
            have sG := made_same nx nd bG
            have hWG := sG _ _ hWF
            have penG : PenAt HG d c0 (n + 1 + 1 + 1) ns := penF.keep sG
            have TG := Tabs.same TF sG
            refine ⟨_, rfl, (by show 0 ≤ sizeLine; decide), fun e0 ne0 => ⟨W5, e0, _, rfl, rfl, SqL.of (same_upd ne0 _ _ hWG), SqL.of upd_same, ne_of_none hWG ne0, _, rfl, iteF ?_⟩⟩
            have s0 := same_upd (o := .lst []) ne0
            -- repr of the pair
            refine ⟨_, rfl, x3, dx3, _, rfl, s0 _ _ hx3, x3, dx3, _, _, rfl, s0 _ _ hx3, lk2a, _, rfl, x3, dx3, _, rfl, s0 _ _ hx3, x3, dx3, _, .int kb, rfl, s0 _ _ hx3, (by first | rfl | simp), (by show 2 ≤ sizeLine; decide), fun t1 nt1 => ⟨_, .tuple [.int ka, .int kb], rfl, .dp (.tup (.inl (.inl upd_same)) (.cons (.int _) (.cons (.int _) .nil))), shp, _, rfl, _, rfl, (by show 2 ≤ sizeLine; decide), fun t2 nt2 => ⟨_, .tuple [.int ka, .int kb], rfl, .dp (.tup (.inl (.inl upd_same)) (.cons (.int _) (.cons (.int _) .nil))), shp, rfl, false, (by rw [decide_eq_true rfl]; rfl), iteF ?_⟩⟩⟩
            have s1 := s0.trans ((same_upd (o := .tup [.int ka, .int kb]) nt1).trans (same_upd (o := .tup [.int ka, .int kb]) nt2))
            have hx3b := s1 _ _ hx3
            have penH := penG.keep s1
            have TH := Tabs.same TG s1
            generalize upd (upd (upd HG e0 (.lst [])) t1 (.tup [.int ka, .int kb])) t2 (.tup [.int ka, .int kb]) = HH at hx3b penH TH ⊢
            clear s1 s0 nt1 nt2 ne0
            -- told != Each(a, b)
            refine ⟨_, rfl, _, rfl, _, rfl, fun x4 dx4 nx4 nd4 ne4 => ⟨x4, dx4, (fun a => a ≠ d), (fun a => a ≠ d), _, _, _, _, rfl, upd_same, .int ka, .int kb, fun _ _ HI hx4 bI => ⟨rfl, ?_⟩, fun no => (na0 no).elim, fun _ no => (nb0 no).elim⟩⟩
            have sI := made_same nx4 nd4 bI
            have hx3I := sI _ _ hx3b
            refine ⟨.each ka kb, _, ⟨x3, dx3, rfl, hx3I⟩, rfl, trivial, (by show 1 ≤ 8; decide), .inr ⟨.each ka kb, ⟨x4, dx4, rfl, hx4⟩, rfl, rfl⟩, fun HJ sJ => ⟨_, rfl, ?_⟩⟩
            rw [aeq_refl]
            refine iteF ?_
            have sIJ := sI.trans sJ
            -- (told == Each(b, a)) != (a == b)
            refine ⟨_, rfl, _, rfl, _, rfl, fun x5 dx5 nx5 nd5 ne5 => ⟨x5, dx5, (fun a => a ≠ d), (fun a => a ≠ d), _, _, _, _, rfl, upd_same, .int kb, .int ka, fun _ _ HK hx5 bK => ⟨rfl, ?_⟩, fun no => (nb0 no).elim, fun _ no => (na0 no).elim⟩⟩
            have sK := made_same nx5 nd5 bK
            refine ⟨.each ka kb, _, ⟨x3, dx3, rfl, sK _ _ (sIJ _ _ hx3b)⟩, rfl, trivial, (by show 1 ≤ 8; decide), .inr ⟨.each kb ka, ⟨x5, dx5, rfl, hx5⟩, rfl, rfl⟩, fun HL sL2 => ?_⟩
            have eab : V.bl (aeq (.each ka kb) (.each kb ka) != false) = V.bl (decide (V.int ka = V.int kb)) := by
              rw [nf_bool, int_dec]
              show V.bl (decide (ka = kb) && decide (kb = ka)) = _
              by_cases z : ka = kb
              · rw [decide_eq_true z, decide_eq_true z.symm]
                rfl
              · rw [decide_eq_false z]
                rfl
            refine ⟨_, rfl, _, rfl, rfl, rfl, false, (by rw [decide_eq_true eab]; rfl), iteF ?_⟩
            have sHL := sIJ.trans (sK.trans sL2)
            have penL := penH.keep sHL
            have TL2 := Tabs.same TH sHL
            clear hx3b hx3I hx4 hx5 penH TH sHL sL2 sK sIJ sJ sI
            refine ⟨_, rfl, fun y1 dy1 ny1 my1 ey1 => ⟨y1, dy1, (fun a => a ≠ d), _, _, rfl, upd_same, .int ka, fun _ M1 hy1 by1 => ⟨rfl, ?_⟩, fun no => (na0 no).elim⟩⟩
            have r1 := made_same ny1 my1 by1
            refine ⟨_, rfl, fun y2 dy2 ny2 my2 ey2 => ⟨y2, dy2, (fun a => a ≠ d), _, _, rfl, upd_same, .int ka, fun _ M2 hy2 by2 => ⟨rfl, ?_⟩, fun no => (na0 no).elim⟩⟩
            have r2 := made_same ny2 my2 by2
            refine ⟨.number ka, _, ⟨y1, dy1, rfl, r2 _ _ hy1⟩, rfl, trivial, (by show 1 ≤ 8; decide), .inr ⟨.count ka, ⟨y2, dy2, rfl, hy2⟩, rfl, rfl⟩, fun M3 r3 => ⟨_, rfl, iteF ?_⟩⟩
            refine ⟨_, rfl, fun y3 dy3 ny3 my3 ey3 => ⟨y3, dy3, (fun a => a ≠ d), _, _, rfl, upd_same, .int ka, fun _ M4 hy3 by3 => ⟨rfl, ?_⟩, fun no => (na0 no).elim⟩⟩
            have r4 := made_same ny3 my3 by3
            have tc3 : AA C M4 (.count ka) (.ref y3) := ⟨y3, dy3, rfl, hy3⟩
            refine ⟨_, _, _, _, _, rfl, .own CA, tc3.ty W.k, W.k.adr 17 (by decide), _, rfl, iteF ?_⟩
            refine ⟨_, rfl, fun y4 dy4 ny4 my4 ey4 => ⟨y4, dy4, (fun a => a ≠ d), _, _, rfl, upd_same, .int ka, fun _ M5 hy4 by4 => ⟨rfl, ?_⟩, fun no => (na0 no).elim⟩⟩
            have r5 := made_same ny4 my4 by4
            refine ⟨_, rfl, .count ka, _, ⟨y4, dy4, rfl, hy4⟩, rfl, trivial, (by show 0 ≤ 8; decide), .inl ⟨.int ka, rfl⟩, fun M6 r6 => ⟨_, rfl, iteF ?_⟩⟩
            refine ⟨_, rfl, fun y5 dy5 ny5 my5 ey5 => ⟨y5, dy5, (fun a => a ≠ d), _, _, rfl, upd_same, .int ka, fun _ M7 hy5 by5 => ⟨rfl, ?_⟩, fun no => (na0 no).elim⟩⟩
            have r7 := made_same ny5 my5 by5
            refine ⟨_, rfl, _, rfl, fun y6 dy6 ny6 my6 ey6 => ⟨y6, dy6, (fun a => a ≠ d), (fun a => a ≠ d), _, _, _, _, rfl, upd_same, .int ka, .int ka, fun _ _ M8 hy6 by6 => ⟨rfl, ?_⟩, fun no => (na0 no).elim, fun _ no => (na0 no).elim⟩⟩
            have r8 := made_same ny6 my6 by6
            refine ⟨.number ka, _, ⟨y5, dy5, rfl, r8 _ _ hy5⟩, rfl, trivial, (by show 1 ≤ 8; decide), .inr ⟨.each ka ka, ⟨y6, dy6, rfl, hy6⟩, rfl, rfl⟩, fun M9 r9 => ⟨_, rfl, iteF ?_⟩⟩
            have rr := ((((((r1.trans r2).trans r3).trans r4).trans r5).trans r6).trans r7).trans (r8.trans r9)
            have penM := penL.keep rr
            have TM := Tabs.same TL2 rr
            have ek : ∀ b : Bool, b = decide (ka = kb) → decide (V.bl (b != false) = V.bl (decide (V.int ka = V.int kb))) = true := fun b e => by rw [nf_bool, int_dec, e]; exact decide_eq_true rfl
            clear r1 r2 r3 r4 r5 r6 r7 r8 r9 rr
            refine ⟨_, rfl, fun z1 dz1 nz1 mz1 ez1 => ⟨z1, dz1, (fun a => a ≠ d), _, _, rfl, upd_same, .int ka, fun _ Z1 hz1 bz1 => ⟨rfl, ?_⟩, fun no => (na0 no).elim⟩⟩
            have q1 := made_same nz1 mz1 bz1
            refine ⟨_, rfl, fun z2 dz2 nz2 mz2 ez2 => ⟨z2, dz2, (fun a => a ≠ d), _, _, rfl, upd_same, .int kb, fun _ Z2 hz2 bz2 => ⟨rfl, ?_⟩, fun no => (nb0 no).elim⟩⟩
            have q2 := made_same nz2 mz2 bz2
            refine ⟨.number ka, _, ⟨z1, dz1, rfl, q2 _ _ hz1⟩, rfl, trivial, (by show 1 ≤ 8; decide), .inr ⟨.number kb, ⟨z2, dz2, rfl, hz2⟩, rfl, rfl⟩, fun Z3 q3 => ⟨_, rfl, _, rfl, rfl, rfl, ?_⟩⟩
            rw [ek (aeq (.number ka) (.number kb)) rfl]
            refine ⟨_, rfl, iteT ?_⟩
            refine ⟨_, rfl, fun z3 dz3 nz3 mz3 ez3 => ⟨z3, dz3, (fun a => a ≠ d), _, _, rfl, upd_same, .int ka, fun _ Z4 hz3 bz3 => ⟨rfl, ?_⟩, fun no => (na0 no).elim⟩⟩
            have q4 := made_same nz3 mz3 bz3
            refine ⟨_, rfl, fun z4 dz4 nz4 mz4 ez4 => ⟨z4, dz4, (fun a => a ≠ d), _, _, rfl, upd_same, .int kb, fun _ Z5 hz4 bz4 => ⟨rfl, ?_⟩, fun no => (nb0 no).elim⟩⟩
            have q5 := made_same nz4 mz4 bz4
            refine ⟨.count ka, _, ⟨z3, dz3, rfl, q5 _ _ hz3⟩, rfl, trivial, (by show 0 ≤ 8; decide), .inr ⟨.count kb, ⟨z4, dz4, rfl, hz4⟩, rfl, rfl⟩, fun Z6 q6 => ⟨_, rfl, _, rfl, rfl, rfl, ?_⟩⟩
            rw [ek (aeq (.count ka) (.count kb)) rfl]
            have qq := ((((q1.trans q2).trans q3).trans q4).trans q5).trans q6
            exact q _ ((penM.keep qq).le (by omega)) (Tabs.same TM qq)
end
end LA
end
section
set_option Elab.async false
set_option linter.all false
set_option maxRecDepth 100000
set_option maxHeartbeats 4100000
namespace LA
open PySem PySem.Spec PyProof.Rows L2 XS XT XK XL LamX XO DnX B0X RfX
abbrev sTsR : Stmt := top 78
section
variable {P : Program} {w : World} {K : PySem.W.Frag} {mg : Str → Option Value} {base : Heap} {C fi fe ft : Nat → Addr} {fdi fde fdt : Nat → FuncData} {CA D : Addr} {p g : Nat → Addr} {fg : Nat → FuncData} {T : List (Addr × Str)}
abbrev nTsR : List Str := ["_law_pen_here", "_law_signs_here", "_law_goal_here", "_law_thing", "_law_told", "_law_odd"]
theorem scTsR : FnScope nTsR ["_law_pen_here", "_law_signs_here"] (defScope sTsR) := ⟨rfl, rfl, rfl, by decide +kernel, rfl, by decide +kernel, by decide +kernel⟩
def spTsR (T : List (Addr × Str)) : Sp := fun vs H Q _ => ∃ (d c : Addr) (n : Int) (ns : List Int) (z : Str), vs = [.ref d, .str z] ∧ PenAt H d c n ns ∧ n + 20 < 1000000 ∧ Sgn z ∧ Tabs T H ∧ ∀ H', PenAt H' d c (n + 20) ns → Tabs T H' → Q (.bl true) H'
theorem Dz.anyV {N : Addr → Prop} {H : Hp} {v : V} {d : PyData} (h : Dz N H v d) : AnyV H v := by
  cases h with
  | non => exact .non
  | bl b => exact .bl b
  | int i => exact .int i
  | str h => exact .str _ (Nat.lt_of_le_of_lt h.few (by decide))
  | lst n h f r => exact .lst h
  | tup n h f r => exact .tup h
  | emp n h => exact .dct h
  | one n h => exact .dct h
theorem GA.anyV {H : Hp} : ∀ {g : G} {v : V}, GA H g v → AnyV H v
  | .leaf _ _, _, ⟨_, _, e, h⟩ => e ▸ .tup h
  | .fails _, _, ⟨_, _, e, h, _⟩ => e ▸ .tup h
  | .pair _ _ _, _, ⟨_, _, _, _, e, h, _⟩ => e ▸ .tup h
theorem ok_TsR {f c PP gc fG fM fP fAn : Addr} {fd fdg dG dM dP dAn : FuncData} (F : FunC K "_law_tests_right" "_law_tests_right" sTsR f fd c) (TB : TabB base mg c PP) (here : (PP, lamQ "_law_tests_right" sTsR) ∈ T) (one : ∀ p ∈ T, p.1 = PP → p.2 = lamQ "_law_tests_right" sTsR)
    (CU : CauAt K mg D gc fdg) (W : LwA P w K mg base C CA D fi fdi fe fde p g fg) (ET : ∀ i, i < 8 → EqAt P w K mg base C 2 i (ft i) (fdt i))
    (GO : CallOf P w K mg base 5 "_law_goal" ["_law_pen_here", "_law_signs_here", "_law_wide", "_law_deep"] spG2 fG dG) (MG : CallOf P w K mg base 18 "_law_made_goal" ["_law_goal_here"] (spMG C 2) fM dM) (PK : PickAt P w K mg base fP dP) (AN : CallOf P w K mg base 3 "_law_any_value" ["_law_pen_here"] spAny fAn dAn) :
    AtG P w K mg base CX0 20 f fd ["_law_pen_here", "_law_signs_here"] (spTsR T) := by
  refine F.atG scTsR (fun vs H Q E h => ?_) (fun A outer s H vs Q E quiet hr h => ?_)
  · obtain ⟨d, c0, n, ns, z, rfl, _⟩ := h
    rfl
  · obtain ⟨d, c0, n, ns, z, rfl, pen, hn, sz, hT, q⟩ := h
    have hu6 := hr.units
    have hr18 : Room 18 _ := hr.mono (by decide)
    have hr12 : Room 12 _ := hr.mono (by decide)
    have hr11 : Room 11 _ := hr.mono (by decide)
    have hr8 : Room 8 _ := hr.mono (by decide)
    have hr7 : Room 7 _ := hr.mono (by decide)
    have hr5 : Room 5 _ := hr.mono (by decide)
    have hr3 : Room 3 _ := hr.mono (by decide)
    have hr2 : Room 2 _ := hr.mono (by decide)
    obtain ⟨cdg, GT⟩ := CauAt.taker (X := (cxOf CX0 P w K mg base nTsR "_law_tests_right" (defScope sTsR) f (.ref c) A outer s H E).nox) CU
    have mk : Maker (cxOf CX0 P w K mg base nTsR "_law_tests_right" (defScope sTsR) f (.ref c) A outer s H E).nox T c PP := ⟨TB, rfl, here, one⟩
    have c12 := (W.k.cled 12 (by decide) (by decide)).cls
    have c14 := (W.k.cled 14 (by decide) (by decide)).cls
    obtain ⟨ds0, vds0, bds0⟩ := W.M.kept0
    refine ⟨_, pss_cons (by exact (ps_set (i := 2) scTsR.nd rfl (.inl rfl) (pe_call GO.ok hr5 rfl GO.m GO.k GO.b .nil pass0 (pa_cons (pv 0) (pa_cons (pv 1) (pa_cons pe_int (pa_cons pe_int pa_nil)))))))
      (pss_cons (by exact (ps_set (i := 3) scTsR.nd rfl (.inl rfl) (pe_call MG.ok hr18 rfl MG.m MG.k MG.b .nil pass0 (pa_cons (pv 2) pa_nil))))
      (pss_cons (by exact (ps_set (i := 5) scTsR.nd rfl (.inr rfl) (pe_call PK.ok hr2 rfl PK.m PK.k PK.b .nil pass0 (pa_cons (pv 0) (pa_cons (pe_lst (pa_cons (pe_call AN.ok hr3 rfl AN.m AN.k AN.b .nil pass0 (pa_cons (pv 0) pa_nil)) (pa_cons (pv 2) (pa_cons (pe_bare W.M.any rfl W.N.any) (pa_cons pe_non pa_nil))))) pa_nil)))))
      (pss_cons (by exact (ps_if (PW.pt (pw_or (pt_cmpR (op_tNe (m := 8) (by decide) W.k.kc ET hr3) (pe_prop (pe_makeK0 W.M.if_.made W.M.if_.ok hr5 rfl W.N.if_ W.M.ifK passN (pk_cons (pv 3) pk_nil)) c12 W.G.if_.prop W.G.if_.ok hr2 W.G.if_.b .nil pass0 rfl) (pv 3) (nomark _)) (pw_or (pt_cmpR (op_aNe W.k W.E hr12) (pe_make W.M.if_.made W.M.if_.ok hr5 rfl W.N.if_ W.M.if_.b .nil passN (pa_cons (pv 3) pa_nil)) (pe_make W.M.if_.made W.M.if_.ok hr5 rfl W.N.if_ W.M.if_.b .nil passN (pa_cons (pe_call MG.ok hr18 rfl MG.m MG.k MG.b .nil pass0 (pa_cons (pv 2) pa_nil)) pa_nil)) (nomark _))
          (pw_or1 (pt_cmpR (op_tNe (m := 8) (by decide) W.k.kc ET hr3) (pe_prop (pe_make W.M.kept.made W.M.kept.ok hr5 rfl W.N.kept W.M.kept.b .nil passN (pa_cons (pv 3) pa_nil)) c14 W.G.kept.prop W.G.kept.ok hr2 W.G.kept.b .nil pass0 rfl) (pv 3) (nomark _)))))) (pss_one (by exact (ps_ret pe_bl))) pss_nil))
      (pss_cons (by exact (ps_if (PW.pt (pw_or (pt_cmp (pc_notN (pe_prop (pe_make0 W.M.kept.made W.M.kept.ok hr5 rfl W.N.kept bds0 vds0 passN) c14 W.G.kept.prop W.G.kept.ok hr2 W.G.kept.b .nil pass0 rfl))) (pw_or (pt_cmpR (op_a W.k W.E hr11) (pe_make0 W.M.kept.made W.M.kept.ok hr5 rfl W.N.kept bds0 vds0 passN) (pe_make W.M.kept.made W.M.kept.ok hr5 rfl W.N.kept W.M.kept.b .nil passN (pa_cons (pv 3) pa_nil)) (nomark _))
          (pw_or (pt_cmpR (op_aNe W.k W.E hr12) (pe_make0 W.M.kept.made W.M.kept.ok hr5 rfl W.N.kept bds0 vds0 passN) (pe_make W.M.kept.made W.M.kept.ok hr5 rfl W.N.kept W.M.kept.b .nil passN (pa_cons pe_non pa_nil)) (nomark _))
          (pw_or1 (pt_cmpR (op_a W.k W.E hr11) (pe_make W.M.if_.made W.M.if_.ok hr5 rfl W.N.if_ W.M.if_.b .nil passN (pa_cons (pv 3) pa_nil)) (pe_make W.M.kept.made W.M.kept.ok hr5 rfl W.N.kept W.M.kept.b .nil passN (pa_cons (pv 3) pa_nil)) (nomark _))))))) (pss_one (by exact (ps_ret pe_bl))) pss_nil))
      (pss_cons (by exact (ps_if (pt_cmpR (op_neD hu6) (pe_goL mk GT hr8 rfl (lamS_by (sc := defScope sTsR) (by decide +kernel)) rfl (fun _ _ _ _ _ => rfl) (fun A2 outer2 s2 H2 E2 f2 c2 r => by exact (pe_make W.M.if_.made W.M.if_.ok (r.mono (by decide)) rfl W.N.if_ W.M.if_.b .nil (passes_call (takes_of rfl rfl rfl rfl) (fun _ _ _ _ h => h)) (pa_cons (pv 5) pa_nil)))) (pe_tup (pa_cons pe_str (pa_cons pe_str (pa_cons pe_bl pa_nil)))) (nomark _)) (pss_one (by exact (ps_ret pe_bl))) pss_nil))
      (pss_cons (by exact (ps_set (i := 4) scTsR.nd rfl (.inl rfl) (pe_goL mk GT hr7 rfl (lamS_by (sc := defScope sTsR) (by decide +kernel)) rfl (fun _ _ _ _ _ => rfl) (fun A2 outer2 s2 H2 E2 f2 c2 r => by exact (pe_makeK0 W.M.kept.made W.M.kept.ok r rfl W.N.kept W.M.keptK (passes_call (takes_of rfl rfl rfl rfl) (fun _ _ _ _ h => h)) (pk_cons (pv 5) pk_nil))))))
      (pss_one (by exact (ps_ret (pe_ifExp (pt_cmp (pc_isN (pv 5))) (pe_cmpR (op_a W.k W.E hr11) (pv 4) (pe_make0 W.M.kept.made W.M.kept.ok hr5 rfl W.N.kept bds0 vds0 passN) (nomark _)) (pe_cmpR (op_eqD hu6) (pv 4) (pe_tup (pa_cons pe_str (pa_cons pe_str (pa_cons pe_bl pa_nil)))) (nomark _)))))))))))), ?_⟩
    obtain ⟨kv0, _, _, pp0⟩ := id pen
    have c1 : cost 2 1 = 18 := by decide
    refine ⟨_, rfl, _, rfl, .inr ⟨d, c0, n, ns, z, 2, rfl, pen, by rw [c1]; omega, sz, by decide, by decide, fun v g H1 hg wf dp lv pen1 b1 => ?_⟩⟩
    rw [c1] at pen1
    have T1 := Tabs.but hT b1 pp0.dc
    obtain ⟨kv1, _, _, pp1⟩ := id pen1
    have dp8 : g.dep ≤ 8 := Nat.le_trans dp (by decide)
    have lv8 : g.lv ≤ 8 := Nat.le_trans lv (by decide)
    refine ⟨_, rfl, g, v, rfl, hg, wf, dp, dp8, lv8, fun u H2 tu s2 => ?_⟩
    have T2 := Tabs.same T1 s2
    have pen2 := pen1.keep s2
    have hg2 := hg.same s2
    refine ⟨_, rfl, _, rfl, d, c0, _, ns, rfl, pen2, by omega, fun x e H3 hx fe pen3 b3 => ?_⟩
    have T3 := Tabs.but T2 b3 (s2 _ _ pp1.dc)
    obtain ⟨kv3, _, _, pp3⟩ := id pen3
    have hg3 := hg2.but b3 (s2 _ _ pp1.dc)
    have tu3 := tu.but b3 (s2 _ _ pp1.dc)
    refine ⟨_, rfl, fun x0 dx0 nx nd ne => ⟨(by show 4 ≤ sizeLine; decide), fun L nL => ?_⟩⟩
    have s4 := (made_start (D := C 8) nx nd).trans (same_upd (o := .lst [x, v, .ref x0, .non]) nL)
    have hx0 : (upd (upd (upd H3 dx0 (.own x0)) x0 (.ins (C 8) dx0 [])) L (.lst [x, v, .ref x0, .non])) x0 = some (.ins (C 8) dx0 []) := same_upd (o := .lst [x, v, .ref x0, .non]) nL _ _ upd_same
    have hL4 : (upd (upd (upd H3 dx0 (.own x0)) x0 (.ins (C 8) dx0 [])) L (.lst [x, v, .ref x0, .non])) L = some (.lst [x, v, .ref x0, .non]) := upd_same
    generalize upd (upd (upd H3 dx0 (.own x0)) x0 (.ins (C 8) dx0 [])) L (.lst [x, v, .ref x0, .non]) = H4 at s4 hx0 hL4 ⊢
    have pen4 := pen3.keep s4
    have hd3 := pp3.dc
    refine ⟨d, c0, _, ns, _, rfl, pen4, by omega, .inl ⟨L, _, rfl, hL4, (by show 0 < 4; decide), (by show 4 < 1000000; decide), fun o H5 ho pen5 b5 => ?_⟩⟩
    have T5 := Tabs.but (Tabs.same T3 s4) b5 (s4 _ _ hd3)
    have tu5 := (tu3.same s4).but b5 (s4 _ _ hd3)
    have hg5 := (hg3.same s4).but b5 (s4 _ _ hd3)
    have hx5 := (hx.same s4).but b5 (fun z => z.1 rfl)
    have hx05 := b5 _ _ hx0 (ne_of hx0 (s4 _ _ hd3) (by intro z; cases z))
    have pen6 : PenAt H5 d c0 (n + 20) ns := pen5.le (by omega)
    simp only [List.mem_cons, List.not_mem_nil, or_false] at ho
    have gl : g.low = true := low_dep dp
    have od : AnyV H5 o ∨ AA C H5 .any o := by
      rcases ho with rfl | rfl | rfl | rfl
      · exact .inl hx5.anyV
      · exact .inl hg5.anyV
      · exact .inr ⟨_, _, rfl, hx05⟩
      · exact .inl .non
    clear hx5 hx05 ho hx hg hg2 hg3
    refine ⟨_, rfl, rfl, rfl, fun y dy ny nd ne => ⟨y, dy, _, true, rfl, upd_same, .inl (.inr ⟨g, tu5.same (made_start ny nd), rfl⟩), fun _ H6 hy b6 => ⟨rfl, ?_⟩, fun no => by cases no⟩⟩
    have sA := made_same ny nd b6
    have tu6 := tu5.same sA
    refine ⟨y, dy, _, rfl, hy, y, dy, _, _, rfl, hy, look1, ?_⟩
    refine ⟨_, rfl, g, true, tu6, tu.at_.1, gl, .inr ⟨g, tu6, gl, (geq_refl g).symm⟩, fun H7 s7 => ⟨false, rfl, iteF ?_⟩⟩
    have tu7 := tu6.same s7
    have sB := sA.trans s7
    clear tu6 b6 hy ny nd
    -- both made of the same test are equal
    refine ⟨_, rfl, fun y1 d1 n1 m1 e1 => ⟨y1, d1, _, true, rfl, upd_same, .inl (.inr ⟨g, tu7.same (made_start n1 m1), rfl⟩), fun _ H8 h8 b8 => ⟨rfl, ?_⟩, fun no => by cases no⟩⟩
    have s8 := made_same n1 m1 b8
    have hg8 := (hg5.same sB).same s8
    refine ⟨_, rfl, g, v, rfl, hg8, wf, dp, dp8, lv8, fun u2 H9 tu9 s9 => ?_⟩
    refine fun y2 d2 n2 m2 e2 => ⟨y2, d2, _, true, rfl, upd_same, .inl (.inr ⟨g, tu9.same (made_start n2 m2), rfl⟩), fun _ HA hA bA => ⟨rfl, ?_⟩, fun no => by cases no⟩
    have sAA := made_same n2 m2 bA
    refine ⟨.if_ g, true, ⟨y1, d1, u, rfl, sAA _ _ (s9 _ _ h8), ((tu7.same s8).same s9).same sAA⟩, gl, trivial, (by show 1 ≤ 8; decide), .inr ⟨.if_ g, ⟨y2, d2, u2, rfl, hA, tu9.same sAA⟩, gl, (aeq_refl (.if_ g)).symm⟩, fun HB s10 => ⟨false, rfl, iteF ?_⟩⟩
    have sC := sB.trans (s8.trans (s9.trans (sAA.trans s10)))
    have tuB := tu5.same sC
    clear s8 hg8 tu9 s9 sAA h8 hA bA b8 n1 m1 n2 m2 tu7 s7 sB
    have hgB := hg5.same sC
    -- and so does one made to be kept
    refine ⟨_, rfl, fun y1 d1 n1 m1 e1 => ⟨y1, d1, _, true, rfl, upd_same, .inr ⟨(fun z => by obtain ⟨_, _, _, _, z2, _⟩ := tu.at_; rw [z2] at z; cases z), .inl (.inr ⟨g, tuB.same (made_start n1 m1), rfl⟩)⟩, fun _ HC hC bC => ⟨rfl, ?_⟩, fun no => by cases no⟩⟩
    have s1 := made_same n1 m1 bC
    refine ⟨y1, d1, _, rfl, hC, y1, d1, _, _, rfl, hC, look1, ?_⟩
    refine ⟨_, rfl, g, true, tuB.same s1, tu.at_.1, gl, .inr ⟨g, tuB.same s1, gl, (geq_refl g).symm⟩, fun HD s2 => ⟨false, rfl, iteF ?_⟩⟩
    have sD := sC.trans (s1.trans s2)
    have tuD := tu5.same sD
    clear s1 s2 hC bC n1 m1 tuB sC hgB
    -- one kept with no test
    refine fun y1 d1 n1 m1 e1 => ⟨y1, d1, .non, true, rfl, upd_same, .inl ⟨rfl, rfl⟩, fun _ HE hE bE => ⟨rfl, ?_⟩, fun no => by cases no⟩
    have s1 := made_same n1 m1 bE
    refine ⟨y1, d1, _, rfl, hE, y1, d1, _, _, rfl, hE, look1, ?_⟩
    refine ⟨false, (by rw [decide_eq_true rfl]; rfl), iteF ?_⟩
    have tuE := tuD.same s1
    refine fun y2 d2 n2 m2 e2 => ⟨y2, d2, .non, true, rfl, upd_same, .inl ⟨rfl, rfl⟩, fun _ HF hF bF => ⟨rfl, ?_⟩, fun no => by cases no⟩
    have s2 := made_same n2 m2 bF
    have nt : u ≠ .non := fun z => by obtain ⟨_, _, _, _, z2, _⟩ := tu.at_; rw [z2] at z; cases z
    refine ⟨_, rfl, fun y3 d3 n3 m3 e3 => ⟨y3, d3, _, true, rfl, upd_same, .inr ⟨nt, .inl (.inr ⟨g, (tuE.same s2).same (made_start n3 m3), rfl⟩)⟩, fun _ HG hG bG => ⟨rfl, ?_⟩, fun no => by cases no⟩⟩
    have s3 := made_same n3 m3 bG
    refine ⟨.kept none, false, ⟨y2, d2, rfl, s3 _ _ hF⟩, rfl, trivial, (by show 1 ≤ 8; decide), .inr ⟨.kept (some g), ⟨y3, d3, u, rfl, hG, (tuE.same s2).same s3⟩, gl, rfl⟩, fun HH s4 => ⟨false, rfl, iteF ?_⟩⟩
    refine fun y4 d4 n4 m4 e4 => ⟨y4, d4, .non, true, rfl, upd_same, .inl ⟨rfl, rfl⟩, fun _ HI hI bI => ⟨rfl, ?_⟩, fun no => by cases no⟩
    have s5 := made_same n4 m4 bI
    refine fun y5 d5 n5 m5 e5 => ⟨y5, d5, .non, true, rfl, upd_same, .inl ⟨rfl, rfl⟩, fun _ HJ hJ bJ => ⟨rfl, ?_⟩, fun no => by cases no⟩
    have s6 := made_same n5 m5 bJ
    refine ⟨.kept none, true, ⟨y4, d4, rfl, s6 _ _ hI⟩, rfl, trivial, (by show 1 ≤ 8; decide), .inr ⟨.kept none, ⟨y5, d5, rfl, hJ⟩, rfl, rfl⟩, fun HL s7 => ⟨false, rfl, iteF ?_⟩⟩
    have sL := s1.trans (s2.trans (s3.trans (s4.trans (s5.trans (s6.trans s7)))))
    have tuL := tuD.same sL
    clear s1 s2 s3 s4 s5 s6 s7 hE bE hF bF hG bG hI bI hJ bJ n1 m1 n2 m2 n3 m3 n4 m4 n5 m5 tuE
    refine ⟨_, rfl, fun y1 d1 n1 m1 e1 => ⟨y1, d1, _, true, rfl, upd_same, .inl (.inr ⟨g, tuL.same (made_start n1 m1), rfl⟩), fun _ HM hM bM => ⟨rfl, ?_⟩, fun no => by cases no⟩⟩
    have s1 := made_same n1 m1 bM
    refine ⟨_, rfl, fun y2 d2 n2 m2 e2 => ⟨y2, d2, _, true, rfl, upd_same, .inr ⟨nt, .inl (.inr ⟨g, (tuL.same s1).same (made_start n2 m2), rfl⟩)⟩, fun _ HN hN bN => ⟨rfl, ?_⟩, fun no => by cases no⟩⟩
    have s2 := made_same n2 m2 bN
    refine ⟨.if_ g, false, ⟨y1, d1, u, rfl, s2 _ _ hM, (tuL.same s1).same s2⟩, gl, trivial, (by show 1 ≤ 8; decide), .inr ⟨.kept (some g), ⟨y2, d2, u, rfl, hN, (tuL.same s1).same s2⟩, gl, rfl⟩, fun HO s3 => ⟨false, rfl, iteF ?_⟩⟩
    have sO := sD.trans (sL.trans (s1.trans (s2.trans s3)))
    clear s1 s2 s3 hM bM hN bN n1 m1 n2 m2 tuL tuD sD sL
    have penO := pen6.keep sO
    have TO := Tabs.same T5 sO
    have odO : AnyV HO o ∨ AA C HO .any o := od.imp (fun h => h.same sO) fun h => h.same sO
    have sok : PyData.strOk "test" = true := by decide +kernel
    have odd : ∀ {H1 H2 : Hp}, ExtN H1 H2 → (AnyV H1 o ∨ AA C H1 .any o) → (AnyV H2 o ∨ AA C H2 .any o) := fun e h => h.imp (fun h => h.keep fun b o2 eb k => e b o2 eb (fun ps z => by rcases k with ⟨_, rfl⟩ | ⟨_, rfl⟩ | ⟨_, rfl⟩ <;> cases z)) fun h => h.ext e
    have tst : ∀ {H1 : Hp}, (AnyV H1 o ∨ AA C H1 .any o) → TstV C H1 o false := fun h => h.elim (fun h => .inl (.inl ⟨h, rfl⟩)) fun h => .inr ⟨_, h, rfl⟩
    refine ⟨TO, fun H8 e8 T8 => ?_⟩
    have od8 := odd e8 odO
    refine ⟨_, rfl, fun x1 d1 n1 m1 e1 => ⟨x1, d1, _, false, rfl, upd_same, tst (odd (Same.extN (made_start n1 m1)) od8), (fun yes => by cases yes), fun _ dd HE nE sE hE => ⟨rfl, dd, _, _, rfl, hE, look1, fun p1 H9 _ s9a hp1 => ⟨(by show 3 ≤ sizeLine; decide), fun t nt => ?_⟩⟩⟩⟩
    have s9 := ((made_start n1 m1).trans sE).trans (s9a.trans (same_upd (o := .tup [.str "wrong", .str "test", .bl true]) nt))
    refine ⟨wrongD "test", wrongD "test", wrong_dp (same_upd nt _ _ hp1), wrong_dp upd_same, wrong_shaped sok, wrong_shaped sok, _, rfl, ?_⟩
    rw [SeqAt.eqv_refl _ (wrong_lay sok)]
    have x9 : ExtN HO _ := ExtN.trans e8 (Same.extN s9)
    have T9 := Tabs.same T8 s9
    have pen9 := (penO.extN e8).keep s9
    have od9 := odd x9 odO
    refine iteF ⟨T9, fun HB eB TB2 => ?_⟩
    have odB := odd eB od9
    have penB := pen9.extN eB
    refine ⟨_, rfl, rfl, rfl, fun x2 d2 n2 m2 e2 => ?_⟩
    by_cases no : o = .non
    · subst no
      refine ⟨x2, d2, .non, true, rfl, upd_same, .inl ⟨rfl, rfl⟩, fun _ HC hC bC => ⟨rfl, ?_⟩, fun no => by cases no⟩
      have s2 := made_same n2 m2 bC
      refine ⟨_, rfl, _, rfl, ?_⟩
      rw [decide_eq_true (rfl : V.non = V.non)]
      refine iteT ⟨_, rfl, fun x3 d3 n3 m3 e3 => ⟨x3, d3, .non, true, rfl, upd_same, .inl ⟨rfl, rfl⟩, fun _ HD hD bD => ⟨rfl, ?_⟩, fun no => by cases no⟩⟩
      have s3 := made_same n3 m3 bD
      exact ⟨.kept none, true, ⟨x2, d2, rfl, s3 _ _ hC⟩, rfl, trivial, (by show 1 ≤ 8; decide), .inr ⟨.kept none, ⟨x3, d3, rfl, hD⟩, rfl, rfl⟩, fun HF s4 => q _ (((penB.keep s2).keep s3).keep s4) (Tabs.same (Tabs.same (Tabs.same TB2 s2) s3) s4)⟩
    · refine ⟨x2, d2, o, false, rfl, upd_same, .inr ⟨no, tst (odd (Same.extN (made_start n2 m2)) odB)⟩, (fun yes => by cases yes), fun _ dd2 HC nC sC hC => ⟨rfl, dd2, _, _, rfl, hC, look1, fun p2 HD _ sD hp2 => ?_⟩⟩
      have s2 := ((made_start n2 m2).trans sC).trans sD
      refine ⟨_, rfl, _, rfl, ?_⟩
      rw [decide_eq_false no]
      refine iteF ⟨_, rfl, (by show 3 ≤ sizeLine; decide), fun t2 nt2 => ?_⟩
      have s3 := same_upd (o := .tup [.str "wrong", .str "test", .bl true]) nt2
      refine ⟨wrongD "test", wrongD "test", wrong_dp (s3 _ _ hp2), wrong_dp upd_same, wrong_shaped sok, wrong_shaped sok, ?_⟩
      rw [SeqAt.eqv_refl _ (wrong_lay sok)]
      exact q _ ((penB.keep s2).keep s3) (Tabs.same (Tabs.same TB2 s2) s3)
end
end LA
end
section
set_option Elab.async false
set_option linter.all false
set_option maxRecDepth 100000
set_option maxHeartbeats 4100000
namespace LA
open PySem PySem.Spec PyProof.Rows L2 XS XT XK XL LamX XO DnX B0X RfX
section
variable {P : Program} {w : World} {K : PySem.W.Frag} {mg : Str → Option Value} {base : Heap} {C : Nat → Addr} {CA : Addr} {fe ft : Nat → Addr} {fde fdt : Nat → FuncData}
/-- how an address' == is found -/
structure EqIn (K : PySem.W.Frag) (C : Nat → Addr) (i : Nat) (f : Addr) (fd : FuncData) : Prop where
  at_ : PySem.W.findIn K (.ref (C i)) "__eq__" = some (some (.ref f))
  fn : PySem.W.isFn K (.ref f) = true
  b : Binds K fd ["self", "other"] []
  ne : PySem.W.findIn K (.ref (C i)) "__ne__" = some (some (.builtin "object.__ne__"))
theorem EqIn.at {n i D : Nat} {f : Addr} {fd : FuncData} (e : EqIn K C i f fd) (o : FnOk P w K mg base CX0 n f fd ["self", "other"] (spEqA C i D)) : EqAtA P w K mg base C n i D f fd := ⟨o, e.at_, e.fn, e.b, e.ne⟩
theorem A.dep0 : ∀ {a : A}, a.dep ≤ 0 → a.cls ≠ 15 ∧ a.cls ≠ 16
  | .any, h => ⟨by decide, by decide⟩
  | .last, h => ⟨by decide, by decide⟩
  | .changed, h => ⟨by decide, by decide⟩
  | .number _, h => ⟨(by show (9 : Nat) ≠ 15; decide), (by show (9 : Nat) ≠ 16; decide)⟩
  | .count _, h => ⟨(by show (17 : Nat) ≠ 15; decide), (by show (17 : Nat) ≠ 16; decide)⟩
  | .each _ _, h => ⟨(by show (10 : Nat) ≠ 15; decide), (by show (10 : Nat) ≠ 16; decide)⟩
  | .if_ _, h => ⟨(by show (12 : Nat) ≠ 15; decide), (by show (12 : Nat) ≠ 16; decide)⟩
  | .kept _, h => ⟨(by show (14 : Nat) ≠ 15; decide), (by show (14 : Nat) ≠ 16; decide)⟩
  | .not a, h => by
    have h : 1 + a.dep ≤ 0 := h
    omega
  | .range a b, h => by
    have h : 1 + max a.dep b.dep ≤ 0 := h
    omega
/-- == of addresses, within one another as deep as one likes -/
theorem eq_all (N : NamA mg C CA) (k : KA K C CA) (O : Outs K C) (I : ∀ i, 8 ≤ i → i < 18 → EqIn K C i (fe i) (fde i)) (ET : ∀ i, i < 8 → EqAt P w K mg base C 2 i (ft i) (fdt i))
    (F8 : Fun K "__eq__" "Any.__eq__" sQAny (fe 8) (fde 8)) (F9 : Fun K "__eq__" "Number.__eq__" sQNumber (fe 9) (fde 9)) (F10 : Fun K "__eq__" "Each.__eq__" sQEach (fe 10) (fde 10)) (F11 : Fun K "__eq__" "Last.__eq__" sQLast (fe 11) (fde 11)) (F12 : Fun K "__eq__" "If.__eq__" sQIf (fe 12) (fde 12)) (F13 : Fun K "__eq__" "Changed.__eq__" sQChanged (fe 13) (fde 13)) (F14 : Fun K "__eq__" "Kept.__eq__" sQKept (fe 14) (fde 14)) (F15 : Fun K "__eq__" "Not.__eq__" sQNot (fe 15) (fde 15)) (F16 : Fun K "__eq__" "Range.__eq__" sQRange (fe 16) (fde 16)) (F17 : Fun K "__eq__" "Count.__eq__" sQCount (fe 17) (fde 17))
    (t9 : C1 K (C 9) "_number") (t17 : C1 K (C 17) "_number") (t12 : C1 K (C 12) "_test") (t14 : C1 K (C 14) "_test") (t15 : C1 K (C 15) "_address") (n10a : NoAttr K (C 10) "_step") (n10b : NoAttr K (C 10) "_start") (n16a : NoAttr K (C 16) "_start") (n16b : NoAttr K (C 16) "_stop") :
    ∀ D i, 8 ≤ i → i < 18 → EqAtA P w K mg base C (D + 3) i D (fe i) (fde i) := by
  have c10 := (k.cled 10 (by decide) (by decide)).cls
  have c16 := (k.cled 16 (by decide) (by decide)).cls
  have rest : ∀ D, FnOk P w K mg base CX0 (D + 3) (fe 15) (fde 15) ["self", "other"] (spEqA C 15 D) → FnOk P w K mg base CX0 (D + 3) (fe 16) (fde 16) ["self", "other"] (spEqA C 16 D) → ∀ i, 8 ≤ i → i < 18 → EqAtA P w K mg base C (D + 3) i D (fe i) (fde i) := fun D q15 q16 i l h => by
    refine (I i l h).at ?_
    have h1 : 1 ≤ D + 3 := by omega
    have h3 : 3 ≤ D + 3 := by omega
    rcases (by omega : i = 8 ∨ i = 9 ∨ i = 10 ∨ i = 11 ∨ i = 12 ∨ i = 13 ∨ i = 14 ∨ i = 15 ∨ i = 16 ∨ i = 17) with rfl | rfl | rfl | rfl | rfl | rfl | rfl | rfl | rfl | rfl
    · exact (ok_QAny F8 N k).mono h1
    · exact (ok_QNumber F9 N k t9).mono h1
    · exact (ok_QEach F10 N k c10 n10a n10b).mono h1
    · exact (ok_QLast F11 N k).mono h1
    · exact (ok_QIf F12 N k t12 ET).mono h3
    · exact (ok_QChanged F13 N k).mono h1
    · exact (ok_QKept F14 N k O t14 ET).mono h3
    · exact q15
    · exact q16
    · exact (ok_QCount F17 N k t17).mono h1
  intro D
  induction D with
  | zero =>
    refine rest 0 ?_ ?_
    · refine F15.ok scQNot (fun vs H Q E h => ?_) (fun cdv A outer s H vs Q E hr h => ?_)
      · obtain ⟨a, x, y, r, rfl, _⟩ := h
        rfl
      · obtain ⟨t, x, y, r, rfl, ta, tc, tl, tw, td, ot, q⟩ := h
        exact absurd tc (LA.A.dep0 td).1
    · refine F16.ok scQRange (fun vs H Q E h => ?_) (fun cdv A outer s H vs Q E hr h => ?_)
      · obtain ⟨a, x, y, r, rfl, _⟩ := h
        rfl
      · obtain ⟨t, x, y, r, rfl, ta, tc, tl, tw, td, ot, q⟩ := h
        exact absurd tc (LA.A.dep0 td).2
  | succ D ih => exact rest (D + 1) (ok_QNot F15 N k t15 ih) (ok_QRange F16 N k c16 n16a n16b ih)
end
end LA
end
section
set_option Elab.async false
set_option linter.all false
set_option maxRecDepth 100000
set_option maxHeartbeats 4100000
namespace SmX
open PySem PySem.Spec PyProof.Rows L2 PySem.SeqAt
/-! ### two lists, or two tuples, that hold the very same objects -/
theorem same_vals : ∀ {xs : List V} {us vs : List Value}, (∀ x ∈ xs, ∃ a, x = .ref a) → Vals xs us → Vals xs vs → us = vs
  | [], _, _, _, h1, h2 => by
    cases h1
    cases h2
    rfl
  | x :: xs, _, _, r, h1, h2 => by
    obtain ⟨a, rfl⟩ := r x (List.mem_cons_self ..)
    cases h1 with
    | cons p1 q1 =>
      cases h2 with
      | cons p2 q2 =>
        obtain rfl := same_vals (fun y m => r y (List.mem_cons_of_mem _ m)) q1 q2
        have e1 : _ = Value.ref a := p1
        have e2 : _ = Value.ref a := p2
        rw [e1, e2]
section
variable {X : Cx}
def rSame (neg : Bool) : R2 := fun x y H Q => ∃ a b xs, x = .ref a ∧ y = .ref b ∧ (∀ x ∈ xs, ∃ c, x = V.ref c) ∧ ((H a = some (.tup xs) ∧ H b = some (.tup xs)) ∨ (H a = some (.lst xs) ∧ H b = some (.lst xs))) ∧ Q (.bl (!neg)) H
theorem at_same {A : Around} {s : Shared} {its : List Value} : ∀ j (h1 : j < its.toArray.size) (h2 : j < its.toArray.size), EqAt A s its.toArray[j] its.toArray[j] ((fun _ => true) j) := fun j h1 h2 => EqAt.same _
theorem all_true (n : Nat) : (List.range n).all (fun _ => true) = true := List.all_eq_true.mpr fun _ _ => rfl
theorem op_same (hu : X.A.units < cLine) : OpR X (compareOp .Eq) (rSame false) := by
  intro pins s σ H x y v u Q I rx ry h
  obtain ⟨a, b, xs, rfl, rfl, rr, k, q⟩ := h
  obtain rfl : v = Value.ref a := rx
  obtain rfl : u = Value.ref b := ry
  rcases k with ⟨ha, hb⟩ | ⟨ha, hb⟩
  · obtain ⟨i1, r1, ⟨o1, e1, c1, n1, d1⟩, _⟩ := I.tuple (SqT.of ha)
    obtain ⟨i2, r2, ⟨o2, e2, c2, n2, d2⟩, _⟩ := I.tuple (SqT.of hb)
    obtain rfl := same_vals rr r1 r2
    exact eq_tupleAt (e := fun _ => true) ⟨o1, e1, c1, n1, d1⟩ ⟨o2, e2, c2, n2, d2⟩ hu at_same (fin_bl I q (by rw [all_true]; simp))
  · obtain ⟨i1, r1, p1, _⟩ := I.list (SqL.of ha)
    obtain ⟨i2, r2, p2, _⟩ := I.list (SqL.of hb)
    obtain rfl := same_vals rr r1 r2
    exact eq_listAt (e := fun _ => true) p1.isList p2.isList rfl hu at_same (fin_bl I q (by rw [all_true]; rfl))
theorem op_sameNe (hu : X.A.units < cLine) : OpR X (compareOp .NotEq) (rSame true) := by
  intro pins s σ H x y v u Q I rx ry h
  obtain ⟨a, b, xs, rfl, rfl, rr, k, q⟩ := h
  obtain rfl : v = Value.ref a := rx
  obtain rfl : u = Value.ref b := ry
  rcases k with ⟨ha, hb⟩ | ⟨ha, hb⟩
  · obtain ⟨i1, r1, ⟨o1, e1, c1, n1, d1⟩, _⟩ := I.tuple (SqT.of ha)
    obtain ⟨i2, r2, ⟨o2, e2, c2, n2, d2⟩, _⟩ := I.tuple (SqT.of hb)
    obtain rfl := same_vals rr r1 r2
    exact RcNeAt.tuples (e := fun _ => true) ⟨o1, e1, c1, n1, d1⟩ ⟨o2, e2, c2, n2, d2⟩ hu at_same _ _ _ _ (fin_bl I q (by rw [all_true]; simp))
  · obtain ⟨i1, r1, p1, _⟩ := I.list (SqL.of ha)
    obtain ⟨i2, r2, p2, _⟩ := I.list (SqL.of hb)
    obtain rfl := same_vals rr r1 r2
    exact RcNeAt.lists (e := fun _ => true) p1.isList p2.isList rfl hu at_same _ _ _ _ (fin_bl I q (by rw [all_true]))
end
end SmX
end
section
set_option Elab.async false
set_option linter.all false
set_option maxRecDepth 100000
set_option maxHeartbeats 4100000
namespace CoX
open PySem PySem.Spec PyProof.Rows L2 XO Builtin PySem.SeqAt GQ
open AutoSeq1 (wpAny_loadPart')
open MeetsSeq MeetsSeq2 MeetsSeq3 SeqRoads2
/-! ### x in a tuple, where every item is told to be unlike x and the state moves meanwhile -/
section
variable {prog : Program} {w : World} {A : Around} {E : Value → Shared → Prop} {s : Shared}
theorem tup_no {l : Addr} {items : Array Value} {n : Nat} {dd : Option Addr} {sl : Array (Option Value)} {x : Value} {R : PySem.Fin → Shared → Prop} {E2 : Value → Shared → Prop} (J : Shared → Prop)
    (hl : s.heap.get? l = some { cls := .type "tuple", dict := dd, data := .seq items n, slots := sl })
    (turn : ∀ y, y ∈ items → ∀ s', J s' → ∀ (E : Value → Shared → Prop), wpAny (model prog w) A (eqBool y x) (fun r s'' => r = false ∧ J s'') E s')
    (fin : ∀ s', J s' → wpAny (model prog w) A (ret (.bool false)) R E2 s') (h : J s) : wpAny (model prog w) A (Builtin.«tuple.__contains__» ⟨[.ref l, x], []⟩) R E2 s := by
  obtain ⟨hp, g, d, tk, os⟩ := s
  wp_walk using wpAny_loadPart' hl, wpAny_forIn_array _ (fun rest b s' => b.1 = none ∧ J s' ∧ (∀ y, y ∈ rest → y ∈ items)) _
  case turn =>
    rintro y rest b s' ⟨hb, hJ, hmem⟩
    refine wpAny_bind (wpAny_mono (turn y (hmem y (List.mem_cons_self ..)) s' hJ E2) (fun r s'' hr => ?_) fun _ _ e => e)
    obtain ⟨rfl, hJ2⟩ := hr
    rw [if_neg (by decide)]
    exact wpAny_pure ⟨rfl, hJ2, fun z hz => hmem z (List.mem_cons_of_mem _ hz)⟩
  case fin =>
    rintro ⟨b1, b2⟩ s' ⟨hb, hJ, -⟩
    simp only at hb
    subst hb
    exact fin s' hJ
  case h => exact ⟨rfl, h, fun y hy => by simpa using hy⟩
end
def Same0 (H H' : Hp) : Prop := ∀ a o, H a = some o → H' a = some o
/-- the same place, within a call of a builtin -/
def inn (X : Cx) (E : Value → Shared → Prop) : Cx := { X with A := X.A.in1, xe := E }
theorem ok_inn {X : Cx} (o : X.Ok) (E : Value → Shared → Prop) : (inn X E).Ok := ⟨o.mod, o.kind, o.glob, o.blt, o.above, o.inj, o.has, o.cab, o.hd, o.frames, o.stk, o.exf, o.bs, o.bsz, o.noex, o.exfs, o.funs, o.frf⟩
theorem inv_inn {X : Cx} {pins : List (Addr × Obj)} {σ : L2.St} {H : Hp} {s : Shared} (I : Inv X pins σ H s) (E : Value → Shared → Prop) : Inv (inn X E) pins σ H s := ⟨ok_inn I.ok E, I.os, I.bare, I.base, I.loc, I.cell, I.free, I.freeC, I.pin, I.hok, I.len⟩
theorem inv_out {X : Cx} {E : Value → Shared → Prop} {pins : List (Addr × Obj)} {σ : L2.St} {H : Hp} {s : Shared} (o : X.Ok) (I : Inv (inn X E) pins σ H s) : Inv X pins σ H s := ⟨o, I.os, I.bare, I.base, I.loc, I.cell, I.free, I.freeC, I.pin, I.hok, I.len⟩
theorem of_ref {z : V} {p : Addr} (h : RelV z (Value.ref p)) : z = .ref p := by
  cases z with
  | ref a =>
    have h : Value.ref p = Value.ref a := h
    injection h with h
    rw [h]
  | non => cases (show Value.ref p = Value.none from h)
  | bl b => cases (show Value.ref p = Value.bool b from h)
  | int i => obtain ⟨t, e⟩ := h; cases e
  | str i => obtain ⟨t, e⟩ := h; cases e
  | byt i => obtain ⟨t, e⟩ := h; cases e
  | flt i => obtain ⟨t, e⟩ := h; cases e
  | ty n => cases (show Value.ref p = Value.type n from h)
theorem mem_vals : ∀ {xs : List V} {us : List Value}, Vals xs us → ∀ u ∈ us, ∃ x ∈ xs, RelV x u
  | [], _, h, u, m => by
    cases h
    cases m
  | x :: xs, _, h, u, m => by
    cases h with
    | cons p q =>
      rcases List.mem_cons.mp m with rfl | m
      · exact ⟨x, List.mem_cons_self .., p⟩
      · obtain ⟨y, my, r⟩ := mem_vals q u m
        exact ⟨y, List.mem_cons_of_mem _ my, r⟩
section
variable {X : Cx}
def rNotIn (R : R2) : R2 := fun x y H Q => ∃ p a xs, x = .ref p ∧ y = .ref a ∧ H a = some (.tup xs) ∧ (∀ z ∈ xs, z ≠ .ref p) ∧ (∀ z ∈ xs, ∀ H', Same0 H H' → R z (.ref p) H' (fun u H'' => u = .bl false ∧ Same0 H' H'')) ∧ ∀ H', Same0 H H' → Q (.bl false) H'
theorem op_notIn {R : R2} (O : ∀ E, OpR (inn X E) (compareOp .Eq) R) : OpR X (compareOp .In) (rNotIn R) := by
  intro pins s σ H x y v u Q I rx ry h
  obtain ⟨p, a, xs, rfl, rfl, ha, no, eqs, q⟩ := h
  obtain rfl : v = Value.ref p := rx
  obtain rfl : u = Value.ref a := ry
  obtain ⟨its, rv, ⟨⟨cls, dd, data, sl⟩, ho, hc, n, hd⟩, _⟩ := I.tuple (SqT.of ha)
  simp only at hc hd
  subst hc hd
  have hT : s.TypeIs (.ref a) "tuple" := ⟨_, ho, rfl⟩
  show wpAny _ X.A (do return (Value.bool (← contains (.ref a) (.ref p))) : Sem Value) _ _ s
  refine wpAny_bind (wpAny_contains_slot hT F.slot_tuple_contains (call_here F.slot_tuple_contains hT F.entry_tuple_contains (F.args_tuple_contains_2 _ _) ?_))
  refine tup_no (fun s' => ∃ H', Same0 H H' ∧ Inv X pins σ H' s') ho (fun y hy s' hJ E => ?_) (fun s' hJ => ?_) ⟨H, fun _ _ z => z, I⟩
  · obtain ⟨H1, s1, I1⟩ := hJ
    obtain ⟨z, hz, rz⟩ := mem_vals rv y (by simpa using hy)
    have step : wpAny (model X.prog X.w) X.A.in1 (richCompare .Eq y (.ref p) >>= fun r => truthOfDropped r) (fun r s'' => r = false ∧ ∃ H', Same0 H H' ∧ Inv X pins σ H' s'') E s' := by
      refine wpAny_bind (wpAny_mono (show wpAny (model X.prog X.w) X.A.in1 (richCompare .Eq y (.ref p)) _ E s' from O E pins s' σ H1 z (.ref p) y _ _ (inv_inn I1 E) rz rfl (eqs z hz H1 s1)) (fun r s'' hr => ?_) fun _ _ e => e)
      obtain ⟨k, H2, I2, rk, rfl, s2⟩ := hr
      obtain rfl : r = Value.bool false := rk
      exact wpAny_truthy_bool ⟨rfl, H2, fun b o e => s2 b o (s1 b o e), inv_out I.ok I2⟩
    unfold eqBool
    refine wpAny_holding ?_
    refine wpAny_ite_split (fun hab => absurd (of_ref (eq_of_beq hab ▸ rz)) (no z hz)) (fun _ => ?_)
    cases y <;> exact step
  · obtain ⟨H1, s1, I1⟩ := hJ
    wp_walk
    exact wpAny_truthy_bool (wpAny_pure ⟨.bl false, H1, I1, rfl, q H1 s1⟩)
end
end CoX
end
section
set_option Elab.async false
set_option linter.all false
set_option maxRecDepth 100000
set_option maxHeartbeats 4100000
namespace LA
open PySem PySem.Spec PyProof.Rows L2 XS XT XK XL LamX XO DnX B0X RfX SmX CoX
/-! the scopes and what is told of deep_right and ranges_right -/
abbrev sDpR : Stmt := top 79
abbrev nDpR : List Str := ["_law_pen_here", "_law_signs_here", "_law_spot_here", "_law_deep", "_law_k", "_law_told", "_law_found", "_law_made", "_law_word"]
theorem scDpR : FnScope nDpR ["_law_pen_here", "_law_signs_here"] (defScope sDpR) := ⟨rfl, rfl, rfl, by decide +kernel, rfl, by decide +kernel, by decide +kernel⟩
def spDpR (T : List (Addr × Str)) : Sp := fun vs H Q _ => ∃ (d c : Addr) (n : Int) (ns : List Int) (z : Str), vs = [.ref d, .str z] ∧ PenAt H d c n ns ∧ n + 40 < 1000000 ∧ Sgn z ∧ Tabs T H ∧ ∀ H', PenAt H' d c (n + 40) ns → Tabs T H' → Q (.bl true) H'
abbrev sRgR : Stmt := top 80
abbrev nRgR : List Str := ["_law_pen_here", "_law_signs_here", "_law_spots", "_law_tip", "_law_whole", "_law_due", "_law_first", "_law_odd", "_law_k", "_law_spot_here"]
theorem scRgR : FnScope nRgR ["_law_pen_here", "_law_signs_here"] (defScope sRgR) := ⟨rfl, rfl, rfl, by decide +kernel, rfl, by decide +kernel, by decide +kernel⟩
def spRgR (T : List (Addr × Str)) : Sp := fun vs H Q _ => ∃ (d c : Addr) (n : Int) (ns : List Int) (z : Str), vs = [.ref d, .str z] ∧ PenAt H d c n ns ∧ n + 70 < 1000000 ∧ Sgn z ∧ Tabs T H ∧ ∀ H', PenAt H' d c (n + 70) ns → Tabs T H' → Q (.bl true) H'
end LA
end
section
set_option Elab.async false
set_option linter.all false
set_option maxRecDepth 100000
set_option maxHeartbeats 4100000
namespace LA
open PySem PySem.Spec PyProof.Rows L2 XS XT XK XL LamX XO DnX B0X RfX
theorem Tabs.but2 {T : List (Addr × Str)} {H H' : Hp} {d L : Addr} {kvs kws : List (Key × V)} (t : Tabs T H) (b : But2 d L H H') (hd : H d = some (.dK kvs)) (hL : H L = some (.dK kws)) : Tabs T H' := fun p hp => by
  obtain ⟨ps, a1, a2, a3⟩ := t p hp
  refine ⟨ps, b _ _ a1 (ne_of a1 hd (by intro z; cases z)) (ne_of a1 hL (by intro z; cases z)), a2, fun pos cv hc => ?_⟩
  obtain ⟨c, e1, e2⟩ := a3 pos cv hc
  exact ⟨c, e1, b _ _ e2 (ne_of e2 hd (by intro z; unfold CodeO at z; cases z)) (ne_of e2 hL (by intro z; unfold CodeO at z; cases z))⟩
/-- an address that m Nots at most stand around -/
structure Ch (a : A) (m : Nat) : Prop where
  wf : a.wf
  low : a.low = true
  isA : a.isA = true
  dep : a.dep = m
  len : a.all.length = m
  nr : hasR a = false
theorem Ch.next {a : A} {m : Nat} (h : Ch a m) : Ch (.not a) (m + 1) :=
  ⟨⟨h.wf, h.isA⟩, h.low, rfl, by show 1 + a.dep = m + 1; rw [h.dep, Nat.add_comm], by show a.all.length + 1 = m + 1; rw [h.len], h.nr⟩
theorem SA.ch {H : Hp} : ∀ {a : A} {v : V}, SA H a v → Ch a 1
  | .any, _, _ => ⟨trivial, rfl, rfl, rfl, rfl, rfl⟩
  | .last, _, _ => ⟨trivial, rfl, rfl, rfl, rfl, rfl⟩
  | .changed, _, _ => ⟨trivial, rfl, rfl, rfl, rfl, rfl⟩
  | .number _, _, _ => ⟨trivial, rfl, rfl, rfl, rfl, rfl⟩
  | .each _ _, _, _ => ⟨trivial, rfl, rfl, rfl, rfl, rfl⟩
  | .if_ g, _, h => ⟨trivial, low_dep h.1.2.1, rfl, rfl, rfl, rfl⟩
  | .kept none, _, _ => ⟨trivial, rfl, rfl, rfl, rfl, rfl⟩
  | .kept (some g), _, h => ⟨trivial, low_dep h.1.2.1, rfl, rfl, rfl, rfl⟩
  | .not _, _, h => h.elim
  | .range _ _, _, h => h.elim
  | .count _, _, h => h.elim
theorem Ch.okIn {a : A} {m : Nat} (h : Ch a m) (m8 : m ≤ 8) : OkIn (some a) := fun b e => by
  cases e
  exact ⟨h.wf, by rw [h.dep]; exact m8, by rw [h.len]; omega⟩
theorem Ch.fit {a : A} {m : Nat} (h : Ch a m) : fitA (some a) = decide (m < 8) := by
  show (a.isA && decide (a.dep < 8)) = _
  rw [h.isA, h.dep, Bool.true_and]
theorem Ch.beg {a : A} {m : Nat} (h : Ch a m) : beginR (some a) = decide (m < 8) := by
  show (fitA (some a) && !hasR a) = _
  rw [h.fit, h.nr]
  exact Bool.and_true _
theorem A.notC {a : A} (h : a.isA = true) : isCnt (some a) = false := by
  show decide (a.cls = 17) = false
  rw [a.isA_cls] at h
  have := of_decide_eq_true h
  exact decide_eq_false (by omega)
theorem Ch.end_ {a : A} {m : Nat} (h : Ch a m) : endR (some a) = decide (m < 8) := by
  show (isCnt (some a) || beginR (some a)) = _
  rw [A.notC h.isA, h.beg, Bool.false_or]
theorem okIn_any : OkIn (some .any) := fun b e => by
  cases e
  exact ⟨trivial, by decide, by decide⟩
theorem okIn_count {n : Int} : OkIn (some (.count n)) := fun b e => by
  cases e
  exact ⟨trivial, by show 0 ≤ 8; decide, by show 1 ≤ 1000; decide⟩
theorem aeq_not : ∀ a : A, aeq (.not a) a = false
  | .not a => aeq_not a
  | .any => rfl
  | .last => rfl
  | .changed => rfl
  | .number _ => rfl
  | .count _ => rfl
  | .each _ _ => rfl
  | .if_ _ => rfl
  | .kept _ => rfl
  | .range _ _ => rfl
theorem lay_words {a b c : Str} (ha : PyData.strOk a = true) (hb : PyData.strOk b = true) (hc : PyData.strOk c = true) : PyData.canLay0 (.list [wrongD a, wrongD b, wrongD c]) = true := by
  unfold PyData.canLay0
  show (PyData.canLay0 (wrongD a) && (PyData.canLay0 (wrongD b) && (PyData.canLay0 (wrongD c) && true))) = true
  rw [wrong_lay ha, wrong_lay hb, wrong_lay hc]
  rfl
theorem shaped_words {a b c : Str} (ha : PyData.strOk a = true) (hb : PyData.strOk b = true) (hc : PyData.strOk c = true) : SeqAt.shaped (.list [wrongD a, wrongD b, wrongD c]) = true := by
  unfold SeqAt.shaped
  have d : PyData.depth (.list [wrongD a, wrongD b, wrongD c]) ≤ 64 := by simp [wrongD, PyData.depth, PyData.depthAll]
  rw [lay_words ha hb hc, decide_eq_true d]
  rfl
section
variable {P : Program} {w : World} {K : PySem.W.Frag} {mg : Str → Option Value} {base : Heap} {C fi fe : Nat → Addr} {fdi fde : Nat → FuncData} {CA D : Addr} {p g : Nat → Addr} {fg : Nat → FuncData} {T : List (Addr × Str)}
theorem ok_DpR {f c PP gc fSP fBU fMS fDR fAn : Addr} {fd fdg dSP dBU dMS dDR dAn : FuncData} (F : FunC K "_law_deep_right" "_law_deep_right" sDpR f fd c) (TB : TabB base mg c PP) (here : (PP, lamQ "_law_deep_right" sDpR) ∈ T) (one : ∀ p ∈ T, p.1 = PP → p.2 = lamQ "_law_deep_right" sDpR)
    (CU : CauAt K mg D gc fdg) (W : LwA P w K mg base C CA D fi fdi fe fde p g fg) (mR : mg "range" = none)
    (SP : CallOf P w K mg base 7 "_law_spot" ["_law_pen_here", "_law_signs_here", "_law_left", "_law_deep"] spSpo fSP dSP) (BU : CallOf P w K mg base 1 "_law_budget" ["_law_is_tight"] spBud fBU dBU) (MS : CallOf P w K mg base 19 "_law_made_spot" ["_law_spot_here"] (spMS C) fMS dMS)
    (DR : Draws P w K mg base fDR dDR) (AN : CallOf P w K mg base 3 "_law_any_value" ["_law_pen_here"] spAny fAn dAn) :
    AtG P w K mg base CX0 20 f fd ["_law_pen_here", "_law_signs_here"] (spDpR T) := by
  refine F.atG scDpR (fun vs H Q E h => ?_) (fun A outer s H vs Q E quiet hr h => ?_)
  · obtain ⟨d, c, n, ns, z, rfl, _⟩ := h
    rfl
  · obtain ⟨d, c0, n, ns, z, rfl, pen, hn, sz, hT, q⟩ := h
    have hu6 := hr.units
    have hr17 : Room 17 _ := hr.mono (by decide)
    have hr15 : Room 15 _ := hr.mono (by decide)
    have hr12 : Room 12 _ := hr.mono (by decide)
    have hr11 : Room 11 _ := hr.mono (by decide)
    have hr7 : Room 7 _ := hr.mono (by decide)
    have hr6 : Room 6 _ := hr.mono (by decide)
    have hr2 : Room 2 _ := hr.mono (by decide)
    have hr1 : Room 1 _ := hr.mono (by decide)
    obtain ⟨cdg, GT⟩ := CauAt.taker (X := (cxOf CX0 P w K mg base nDpR "_law_deep_right" (defScope sDpR) f (.ref c) A outer s H E).nox) CU
    have mk : Maker (cxOf CX0 P w K mg base nDpR "_law_deep_right" (defScope sDpR) f (.ref c) A outer s H E).nox T c PP := ⟨TB, rfl, here, one⟩
    have c15 := (W.k.cled 15 (by decide) (by decide)).cls
    have c16 := (W.k.cled 16 (by decide) (by decide)).cls
    refine ⟨_, pss_cons (by exact (ps_set (i := 2) scDpR.nd rfl (.inl rfl) (pe_call SP.ok hr7 rfl SP.m SP.k SP.b .nil pass0 (pa_cons (pv 0) (pa_cons (pv 1) (pa_cons (pe_call BU.ok hr1 rfl BU.m BU.k BU.b .nil pass0 (pa_cons pe_bl pa_nil)) (pa_cons pe_int pa_nil)))))))
      (pss_cons (by exact (ps_asg (pe_tup (pa_cons (pe_call MS.ok hr rfl MS.m MS.k MS.b .nil pass0 (pa_cons (pv 2) pa_nil)) (pa_cons pe_int pa_nil))) (pg_tup rfl (pgs_cons (pg_name (i := 7) scDpR.nd rfl (Or.inr rfl)) (pgs_cons (pg_name (i := 3) scDpR.nd rfl (Or.inl rfl)) pgs_nil)))))
      (pss_cons (by exact (ps_for PassesOwn.never rfl (pi_range1 rfl mR (pa_cons (pe_op op_add pe_int (pe_call DR.ok hr1 rfl DR.m DR.k DR.b .nil pass0 (pa_cons (pv 0) (pa_cons pe_int pa_nil)))) pa_nil)) (by exact (pg_name (i := 4) scDpR.nd rfl (Or.inl rfl)))
        (pss_cons (by exact (ps_set (i := 5) scDpR.nd rfl (.inl rfl) (pe_goL mk GT hr17 rfl (lamS_by (sc := defScope sDpR) (by decide +kernel)) rfl (fun _ _ _ _ _ => rfl) (fun A2 outer2 s2 H2 E2 f2 c2 r => by exact (pe_make W.M.not.made W.M.not.ok r rfl W.N.not W.M.not.b .nil (passes_call (takes_of rfl rfl rfl rfl) (fun _ _ _ _ h => h)) (pa_cons (pv 7) pa_nil))))))
        (pss_cons (by exact (ps_if (pt_cmpR op_gt (pv 3) pe_int (nomark _))
          (pss_cons (by exact (ps_set (i := 6) scDpR.nd rfl (.inl rfl) (pe_lst (pa_cons (pv 5) (pa_cons (pe_goL mk GT hr17 rfl (lamS_by (sc := defScope sDpR) (by decide +kernel)) rfl (fun _ _ _ _ _ => rfl) (fun A2 outer2 s2 H2 E2 f2 c2 r => by exact (pe_make W.M.range.made W.M.range.ok r rfl W.N.range W.M.range.b .nil (passes_call (takes_of rfl rfl rfl rfl) (fun _ _ _ _ h => h)) (pa_cons (pv 7) (pa_cons (pe_make W.M.count.made W.M.count.ok (r.mono (by decide)) rfl W.N.count W.M.count.b .nil (passes_call (takes_of rfl rfl rfl rfl) (fun _ _ _ _ h => h)) (pa_cons pe_int pa_nil)) pa_nil))))) pa_nil)))))
          (pss_cons (by exact (ps_expr (pe_bm PySem.F.plainAttrs_list PySem.F.slot_list_append PySem.F.type_list_append mt_append (pv 6) (pa_cons (pe_goL mk GT hr17 rfl (lamS_by (sc := defScope sDpR) (by decide +kernel)) rfl (fun _ _ _ _ _ => rfl) (fun A2 outer2 s2 H2 E2 f2 c2 r => by exact (pe_make W.M.range.made W.M.range.ok r rfl W.N.range W.M.range.b .nil (passes_call (takes_of rfl rfl rfl rfl) (fun _ _ _ _ h => h)) (pa_cons (pe_bare W.M.any rfl W.N.any) (pa_cons (pv 7) pa_nil))))) pa_nil))))
          (pss_one (by exact (ps_ret (pe_cmpR (op_eqD hu6) (pv 6) (pe_lc (own := [("_law_word", 8)]) (g := gName 8) (tt := tYes) (te := tTup (tCons (tC (.str "wrong")) (tCons (tVar 8) (tCons (tC (.bl true)) tNil)))) rfl scDpR.nd (pi_list (pe_lst (pa_cons pe_str (pa_cons pe_str (pa_cons pe_str pa_nil)))))
            (blkOk_by (N := nDpR) (sc := defScope sDpR) (by decide +kernel)) (fun _ _ _ _ _ => by exact (pg_name (i := 8) scDpR.nd rfl (Or.inl rfl))) (fun _ _ _ _ _ => by exact pts_nil)
            (fun _ _ _ _ _ => by exact (pe_tup (pa_cons pe_str (pa_cons (pv 8) (pa_cons pe_bl pa_nil)))))) (nomark _))))))) pss_nil))
        (pss_cons (by exact (ps_if (PW.pt (pw_and (pt_cmpR op_eq (pv 3) pe_int (nomark _)) (pw_and1 (PW.pt (pw_or (pt_cmpR (op_aNe W.k W.E hr12) (pe_prop (pe_make W.M.range.made W.M.range.ok hr15 rfl W.N.range W.M.range.b .nil passN (pa_cons (pv 7) (pa_cons (pe_make W.M.count.made W.M.count.ok hr6 rfl W.N.count W.M.count.b .nil passN (pa_cons pe_int pa_nil)) pa_nil))) c16 W.G.start.prop W.G.start.ok hr2 W.G.start.b .nil pass0 rfl) (pv 7) (nomark _))
            (pw_or1 (pt_cmpR (op_aNe W.k W.E hr12) (pe_prop (pe_make W.M.range.made W.M.range.ok hr15 rfl W.N.range W.M.range.b .nil passN (pa_cons (pe_bare W.M.any rfl W.N.any) (pa_cons (pv 7) pa_nil))) c16 W.G.stop.prop W.G.stop.ok hr2 W.G.stop.b .nil pass0 rfl) (pv 7) (nomark _)))))))) (pss_one (by exact (ps_ret pe_bl))) pss_nil))
        (pss_cons (by exact (ps_if (PW.pt (pw_or (pt_cmpR (op_aNe W.k W.E hr12) (pe_prop (pv 5) c15 W.G.not.prop W.G.not.ok hr2 W.G.not.b .nil pass0 rfl) (pv 7) (nomark _)) (pw_or (pt_cmpR (op_a W.k W.E hr11) (pv 5) (pv 7) (nomark _)) (pw_or1 (pt_cmpR (op_aNe W.k W.E hr12) (pv 5) (pe_makeK0 W.M.not.made W.M.not.ok hr15 rfl W.N.not W.M.notK passN (pk_cons (pv 7) pk_nil)) (nomark _)))))) (pss_one (by exact (ps_ret pe_bl))) pss_nil))
        (pss_one (by exact (ps_asg (pe_tup (pa_cons (pv 5) (pa_cons (pe_op op_add (pv 3) pe_int) pa_nil))) (pg_tup rfl (pgs_cons (pg_name (i := 7) scDpR.nd rfl (Or.inr rfl)) (pgs_cons (pg_name (i := 3) scDpR.nd rfl (Or.inl rfl)) pgs_nil))))))))))))
      (pss_one (by exact (ps_ret (pe_cmpR (op_eqD hu6) (pe_goL mk GT hr17 rfl (lamS_by (sc := defScope sDpR) (by decide +kernel)) rfl (fun _ _ _ _ _ => rfl) (fun A2 outer2 s2 H2 E2 f2 c2 r => by exact (pe_make W.M.not.made W.M.not.ok r rfl W.N.not W.M.not.b .nil (passes_call (takes_of rfl rfl rfl rfl) (fun _ _ _ _ h => h)) (pa_cons (pe_call AN.ok (r.mono (by decide)) rfl AN.m AN.k AN.b .nil pass0 (pa_cons (pv 0) pa_nil)) pa_nil)))) (pe_tup (pa_cons pe_str (pa_cons pe_str (pa_cons pe_bl pa_nil)))) (nomark _))))))), ?_⟩
    obtain ⟨kv0, _, _, pp0⟩ := id pen
    have sok1 : PyData.strOk "address" = true := by decide +kernel
    have sok2 : PyData.strOk "start" = true := by decide +kernel
    have sok3 : PyData.strOk "stop" = true := by decide +kernel
    refine ⟨_, rfl, _, rfl, rfl, fun L H1 lf nL s1 => ⟨d, c0, L, n, ns, z, 6, 2, rfl, pen.keep s1, by omega, sz, lf, Ne.symm (ne_of_none pp0.dc nL), by decide, by decide, fun v a H2 sa pen2 b2 => ?_⟩⟩
    have T2 : Tabs T H2 := by
      obtain ⟨kvL, lfL⟩ := lf
      exact Tabs.but2 (Tabs.same hT s1) b2 (s1 _ _ pp0.dc) lfL.dc
    refine ⟨_, rfl, a, v, rfl, sa, fun u0 H3 ua0 s3 => ⟨(by show 2 ≤ sizeLine; decide), fun t nt => ⟨t, _, rfl, SqT.of upd_same, rfl, _, _, rfl, _, _, rfl, rfl, ?_⟩⟩⟩
    have st := same_upd (o := .tup [u0, .int 1]) nt
    have pen3 := (pen2.keep s3).keep st
    have T3 := Tabs.same (Tabs.same T2 s3) st
    have ua3 := ua0.same st
    have ch3 := sa.ch
    generalize upd H3 t (.tup [u0, .int 1]) = H4 at pen3 T3 ua3 ⊢
    clear s3 st nt ua0 sa b2 pen2 T2 lf nL s1
    obtain ⟨kv4, _, _, pp4⟩ := id pen3
    refine ⟨_, rfl, d, c0, n + 30, ns, 8, rfl, pen3, by omega, by decide, by decide, fun r H5 r0 r1 pen5 b5 => ⟨_, _, rfl, rfl, _, rfl, by omega, by omega, ?_⟩⟩
    have T5 := Tabs.but T3 b5 pp4.dc
    have ua5 := ua3.but b5 pp4.dc
    refine for_range (lo := 0) (n := (3 + r).toNat) (fun i σ X => ∃ (m : Int) (x4 x5 x6 x8 : Option V) (a : LA.A) (u : V), m = i + 1 ∧ i ≤ 7 ∧ σ = [some (.ref d), some (.str z), some v, some (.int m), x4, x5, x6, some u, x8] ∧ AA C X a u ∧ Ch a (i + 1) ∧ PenAt X d c0 (n + 31) ns ∧ Tabs T X)
      ⟨1, _, _, _, _, a, u0, rfl, by decide, rfl, ua5, ch3, pen5.le (by omega), T5⟩ (fun i σ X hi p => ?_) (fun σ X p => ?_)
    · obtain ⟨m, x4, x5, x6, x8, a, u, em, i7, rfl, ua, ch, pX, TX⟩ := p
      clear ua5 ua3 T5 T3 pen5 b5 pen3 ch3
      have oka := ch.okIn (by omega)
      refine ⟨TX, fun H6 e6 T6 => ?_⟩
      have ua6 := ua.ext e6
      have pen6 := pX.extN e6
      by_cases e7 : i = 7
      · have ft : fitA (some a) = false := by rw [ch.fit]; exact decide_eq_false (by omega)
        have bg : beginR (some a) = false := by rw [ch.beg]; exact decide_eq_false (by omega)
        have en : endR (some a) = false := by rw [ch.end_]; exact decide_eq_false (by omega)
        refine ⟨_, rfl, fun x1 d1 n1 m1 _ => ⟨x1, d1, u, some a, rfl, upd_same, .inr ⟨a, ua6.same (made_start n1 m1), rfl⟩, oka, (fun yes => by rw [ft] at yes; cases yes), fun _ dd HE nE sE hE => ⟨rfl, dd, _, _, rfl, hE, look1, fun p1 H9 _ s9a hp1 => ?_⟩⟩⟩
        have s9 := ((made_start n1 m1).trans sE).trans s9a
        have ua9 := ua6.same s9
        have pen9 := pen6.keep s9
        have T9 := Tabs.same T6 s9
        clear n1 m1 sE s9a hE
        refine ⟨_, rfl, _, _, rfl, rfl, _, rfl, ?_⟩
        rw [decide_eq_true (show m > 7 by omega)]
        refine iteT ⟨_, rfl, T9, fun HA eA TA => ?_⟩
        have uaA := ua9.ext eA
        have hp1A := eA _ _ hp1 (fun _ z => by cases z)
        refine ⟨_, rfl, fun x2 d2 n2 m2 _ => ⟨x2, d2, (fun _ => True), _, .int 1, rfl, upd_same, .int 1, fun _ HB hB bB => ⟨rfl, ?_⟩, fun no => by cases no⟩⟩
        have sB := made_same n2 m2 bB
        refine fun x3 d3 n3 m3 _ => ⟨x3, d3, u, .ref x2, some a, some (.count 1), rfl, upd_same, .inr ⟨a, (uaA.same sB).same (made_start n3 m3), rfl⟩, .inr ⟨.count 1, ⟨x2, d2, rfl, made_start n3 m3 _ _ hB⟩, rfl⟩, oka, okIn_count, (fun yes => by rw [bg] at yes; cases yes), (fun _ dd HF nF sF hF => ⟨rfl, dd, _, _, rfl, hF, look1, fun p2 HG _ sGa hp2 => ⟨(by show 2 ≤ sizeLine; decide), fun TL nTL => ?_⟩⟩), fun yes => by rw [bg] at yes; cases yes⟩
        have sG := (sB.trans (made_start n3 m3)).trans (sF.trans sGa)
        have sTL := same_upd (o := .lst [.ref p1, .ref p2]) nTL
        have penG := (pen9.extN eA).keep sG
        have fT := penG.fresh nTL
        have hTL : (upd HG TL (.lst [.ref p1, .ref p2])) TL = some (.lst [.ref p1, .ref p2]) := upd_same
        have hp1T := sTL _ _ (sG _ _ hp1A)
        have hp2T := sTL _ _ hp2
        have uaT := (uaA.same sG).same sTL
        have TT := Tabs.same (Tabs.same TA sG) sTL
        have penT := penG.keep sTL
        generalize upd HG TL (.lst [.ref p1, .ref p2]) = HT at hTL hp1T hp2T uaT TT penT ⊢
        clear penG sTL sG nTL hp2 sGa sF hF n3 m3 sB hB bB n2 m2 uaA hp1A TA pen9 T9 ua9 hp1
        refine ⟨_, rfl, .inl ⟨rfl, _, SqL.of hTL⟩, TT, fun HI eI TI => ?_⟩
        have uaI := uaT.ext eI
        refine fun y4 d4 n4 m4 _ => ⟨_, rfl, fun y5 d5 n5 m5 _ => ⟨y5, d5, .ref y4, u, some .any, some a, rfl, upd_same, .inr ⟨.any, ⟨y4, d4, rfl, made_start n5 m5 _ _ upd_same⟩, rfl⟩, .inr ⟨a, (uaI.same (made_start n4 m4)).same (made_start n5 m5), rfl⟩, okIn_any, oka, (fun _ yes => by rw [en] at yes; cases yes), (fun no => by cases no), fun _ _ dd HJ nJ sJ hJ => ⟨rfl, dd, _, _, rfl, hJ, look1, fun p3 HK _ sKa hp3 => ?_⟩⟩⟩
        have sK := (made_start n4 m4).trans ((made_start n5 m5).trans (sJ.trans sKa))
        have hTLK := sK _ _ (eI _ _ hTL (fun _ z => by cases z))
        have hp1K := sK _ _ (eI _ _ hp1T (fun _ z => by cases z))
        have hp2K := sK _ _ (eI _ _ hp2T (fun _ z => by cases z))
        have penK := (penT.extN eI).keep sK
        have TK := Tabs.same TI sK
        refine ⟨TL, _, .ref p3, rfl, rfl, hTLK, (by show 2 < sizeLine; decide), ?_⟩
        have nt : ∀ q z, HK q = some (.tup z) → q ≠ TL := fun q z e => ne_of e hTLK (by intro z; cases z)
        have hp1U : (upd HK TL (.lst [.ref p1, .ref p2, .ref p3])) p1 = some (.tup [.str "wrong", .str "address", .bl true]) := by rw [upd_ne (nt _ _ hp1K)]; exact hp1K
        have hp2U : (upd HK TL (.lst [.ref p1, .ref p2, .ref p3])) p2 = some (.tup [.str "wrong", .str "start", .bl true]) := by rw [upd_ne (nt _ _ hp2K)]; exact hp2K
        have hp3U : (upd HK TL (.lst [.ref p1, .ref p2, .ref p3])) p3 = some (.tup [.str "wrong", .str "stop", .bl true]) := by rw [upd_ne (nt _ _ hp3)]; exact hp3
        have hTLU : (upd HK TL (.lst [.ref p1, .ref p2, .ref p3])) TL = some (.lst [.ref p1, .ref p2, .ref p3]) := upd_same
        have penU : PenAt (upd HK TL (.lst [.ref p1, .ref p2, .ref p3])) d c0 (n + 31) ns := penK.put fT.1 fT.2
        have TU : Tabs T (upd HK TL (.lst [.ref p1, .ref p2, .ref p3])) := Tabs.putL TK hTLK
        refine ⟨_, rfl, (by show 3 ≤ sizeLine; decide), fun L2 nL2 => ⟨L2, rfl, ⟨_, SqL.of upd_same⟩, fun DD nDD => ?_⟩⟩
        have sL2 := same_upd (o := .lst [.str "address", .str "start", .str "stop"]) nL2
        have hL2 : (upd (upd HK TL (.lst [.ref p1, .ref p2, .ref p3])) L2 (.lst [.str "address", .str "start", .str "stop"])) L2 = some (.lst [.str "address", .str "start", .str "stop"]) := upd_same
        refine lc_it (walk_list (xs := [.str "address", .str "start", .str "stop"])) (fun j Y => (∃ ps : List Addr, Y DD = some (.lst (ps.map V.ref)) ∧ ps.length = j ∧ ∀ (k : Nat) (q : Addr), ps[k]? = some q → ∃ z, (["address", "start", "stop"] : List Str)[k]? = some z ∧ Y q = some (.tup [.str "wrong", .str z, .bl true])) ∧ Same (upd (upd HK TL (.lst [.ref p1, .ref p2, .ref p3])) L2 (.lst [.str "address", .str "start", .str "stop"])) Y) ⟨⟨[], upd_same, rfl, fun k q h => (by simp at h)⟩, same_upd nDD⟩ (fun j Y _ p2 => SqL.of (p2.2 _ _ hL2)) (fun j x Y Y' hj p2 yl => ?_) (fun Y p2 => ?_)
        · obtain ⟨⟨ps, pD, pl, pp⟩, pS⟩ := p2
          obtain ⟨rfl, hx⟩ := yl
          obtain ⟨z, hz, rfl⟩ : ∃ z, (["address", "start", "stop"] : List Str)[j]? = some z ∧ x = .str z := by
            rcases j with _ | _ | _ | j
            · exact ⟨_, rfl, (Option.some.inj hx).symm⟩
            · exact ⟨_, rfl, (Option.some.inj hx).symm⟩
            · exact ⟨_, rfl, (Option.some.inj hx).symm⟩
            · simp at hx
          have j3 : j < 3 := hj
          refine ⟨rfl, ?_⟩
          dsimp only [tYes]
          rw [if_pos rfl]
          refine ⟨_, rfl, (by show 3 ≤ sizeLine; decide), fun q1 nq => ?_⟩
          have sq := same_upd (o := .tup [.str "wrong", .str z, .bl true]) nq
          refine ⟨ps.map V.ref, sq _ _ pD, ?_, ⟨ps ++ [q1], by rw [upd_same, List.map_append]; rfl, by rw [List.length_append, pl]; rfl, fun k q2 hk => ?_⟩, fun b o e => ?_⟩
          · rw [List.length_map]
            exact Nat.lt_of_le_of_lt (show ps.length ≤ 3 by omega) (by decide)
          · rcases Nat.lt_or_ge k ps.length with lk | lk
            · rw [List.getElem?_append_left lk] at hk
              obtain ⟨z2, hz2, hq2⟩ := pp k q2 hk
              exact ⟨z2, hz2, by rw [upd_ne (ne_of (sq _ _ hq2) (sq _ _ pD) (by intro z; cases z))]; exact sq _ _ hq2⟩
            · rw [List.getElem?_append_right lk] at hk
              have ek : k - ps.length = 0 := by
                rcases h : k - ps.length with _ | y
                · rfl
                · rw [h] at hk
                  simp at hk
              rw [ek] at hk
              obtain rfl : q1 = q2 := Option.some.inj hk
              obtain rfl : k = j := by omega
              exact ⟨z, hz, by rw [upd_ne (ne_of upd_same (sq _ _ pD) (by intro z; cases z))]; exact upd_same⟩
          · rw [upd_ne (ne_of_none e nDD)]
            exact sq _ _ (pS _ _ e)
        · obtain ⟨⟨ps, pD, pl, pp⟩, pS⟩ := p2
          have sE := sL2.trans pS
          match ps, pl with
          | [q0, q1, q2], _ =>
            obtain ⟨z0, e0, h0⟩ := pp 0 q0 rfl
            obtain ⟨z1, e1, h1⟩ := pp 1 q1 rfl
            obtain ⟨z2, e2, h2⟩ := pp 2 q2 rfl
            cases Option.some.inj e0
            cases Option.some.inj e1
            cases Option.some.inj e2
            refine ⟨.list [wrongD "address", wrongD "start", wrongD "stop"], .list [wrongD "address", wrongD "start", wrongD "stop"], .lst (SqL.of (sE _ _ hTLU)) (.cons (wrong_dp (sE _ _ hp1U)) (.cons (wrong_dp (sE _ _ hp2U)) (.cons (wrong_dp (sE _ _ hp3U)) .nil))), .lst (SqL.of pD) (.cons (wrong_dp h0) (.cons (wrong_dp h1) (.cons (wrong_dp h2) .nil))), shaped_words sok1 sok2 sok3, shaped_words sok1 sok2 sok3, ?_⟩
            rw [SeqAt.eqv_refl _ (lay_words sok1 sok2 sok3)]
            exact q _ ((penU.keep sE).le (by omega)) (Tabs.same TU sE)
      · have ft : fitA (some a) = true := by rw [ch.fit]; exact decide_eq_true (by omega)
        have bg : beginR (some a) = true := by rw [ch.beg]; exact decide_eq_true (by omega)
        have en : endR (some a) = true := by rw [ch.end_]; exact decide_eq_true (by omega)
        have d8 : a.dep ≤ 8 := by rw [ch.dep]; omega
        have ch2 := ch.next
        have d82 : (LA.A.not a).dep ≤ 8 := by rw [ch2.dep]; omega
        refine ⟨_, rfl, fun x1 d1 n1 m1 _ => ⟨x1, d1, u, some a, rfl, upd_same, .inr ⟨a, ua6.same (made_start n1 m1), rfl⟩, oka, (fun _ H7 hx1 b7 => ⟨rfl, ?_⟩), fun no => by rw [ft] at no; cases no⟩⟩
        have s7 := made_same n1 m1 b7
        have ua7 := ua6.same s7
        have ta7 : AA C H7 (.not a) (.ref x1) := ⟨x1, d1, u, rfl, hx1, ua7⟩
        have pen7 := pen6.keep s7
        have T7 := Tabs.same T6 s7
        clear n1 m1 b7 s7 ua6 pen6 T6
        refine ⟨_, rfl, _, _, rfl, rfl, _, rfl, ?_⟩
        rw [decide_eq_false (show ¬ m > 7 by omega)]
        refine iteF ?_
        refine ⟨_, rfl, rfl, _, rfl, ?_⟩
        rw [int_dec]
        by_cases e6 : m = 7
        case' pos =>
          rw [decide_eq_true e6]
          refine iteT ?_
          refine ⟨_, rfl, fun x2 d2 n2 m2 _ => ⟨x2, d2, (fun _ => True), _, .int 1, rfl, upd_same, .int 1, fun _ HB hB bB => ⟨rfl, ?_⟩, fun no => by cases no⟩⟩
          have sB := made_same n2 m2 bB
          refine fun x3 d3 n3 m3 _ => ⟨x3, d3, u, .ref x2, some a, some (.count 1), rfl, upd_same, .inr ⟨a, (ua7.same sB).same (made_start n3 m3), rfl⟩, .inr ⟨.count 1, ⟨x2, d2, rfl, made_start n3 m3 _ _ hB⟩, rfl⟩, oka, okIn_count, (fun _ _ HD hD bD => ⟨rfl, ?_⟩), (fun no => by rw [bg] at no; cases no), fun _ no => by cases no⟩
          have sD := sB.trans (made_same n3 m3 bD)
          refine ⟨x3, d3, _, rfl, hD, x3, d3, _, _, rfl, hD, lk2a, _, rfl, ?_⟩
          refine ⟨a, true, ua7.same sD, ch.low, ch.wf, d8, .inr ⟨a, ua7.same sD, ch.low, (aeq_refl a).symm⟩, fun HE sE => ⟨false, rfl, iteF ?_⟩⟩
          have sDE := sD.trans sE
          refine fun y4 d4 n4 m4 _ => ⟨_, rfl, fun y5 d5 n5 m5 _ => ⟨y5, d5, .ref y4, u, some .any, some a, rfl, upd_same, .inr ⟨.any, ⟨y4, d4, rfl, made_start n5 m5 _ _ upd_same⟩, rfl⟩, .inr ⟨a, ((ua7.same sDE).same (made_start n4 m4)).same (made_start n5 m5), rfl⟩, okIn_any, oka, (fun _ _ HF hF bF => ⟨rfl, ?_⟩), (fun no => by cases no), fun _ no => by rw [en] at no; cases no⟩⟩
          have sF := sDE.trans ((made_start n4 m4).trans (made_same n5 m5 bF))
          refine ⟨y5, d5, _, rfl, hF, y5, d5, _, _, rfl, hF, (by first | rfl | simp), _, rfl, ?_⟩
          refine ⟨a, true, ua7.same sF, ch.low, ch.wf, d8, .inr ⟨a, ua7.same sF, ch.low, (aeq_refl a).symm⟩, fun HG sG => ⟨false, rfl, iteF ?_⟩⟩
          have sA := sF.trans sG
          clear sG sF hF bF n4 m4 n5 m5 sDE sE sD hD bD n3 m3 sB hB bB n2 m2
          have uaA := ua7.same sA
          have taA := ta7.same sA
          have hx1A := sA _ _ hx1
          have penA := pen7.keep sA
          have TA := Tabs.same T7 sA
        case' neg =>
          rw [decide_eq_false e6]
          refine iteF (iteF ?_)
          have uaA := ua7
          have taA := ta7
          have hx1A := hx1
          have penA := pen7
          have TA := T7
        all_goals
          refine ⟨_, rfl, x1, d1, _, rfl, hx1A, x1, d1, _, _, rfl, hx1A, look1, _, rfl, ?_⟩
          refine ⟨a, true, uaA, ch.low, ch.wf, d8, .inr ⟨a, uaA, ch.low, (aeq_refl a).symm⟩, fun HL sL => ⟨false, rfl, iteF ?_⟩⟩
          refine ⟨_, rfl, _, rfl, ?_⟩
          refine ⟨.not a, false, taA.same sL, ch2.low, ch2.wf, d82, .inr ⟨a, uaA.same sL, ch.low, (aeq_not a).symm⟩, fun HM sM => ⟨false, rfl, iteF ?_⟩⟩
          have sLM := sL.trans sM
          refine ⟨_, rfl, _, rfl, rfl, rfl, fun x6' d6 n6 m6 _ => ⟨x6', d6, u, some a, rfl, upd_same, .inr ⟨a, (uaA.same sLM).same (made_start n6 m6), rfl⟩, oka, (fun _ HN hN bN => ⟨rfl, ?_⟩), fun no => by rw [ft] at no; cases no⟩⟩
          have sN := sLM.trans (made_same n6 m6 bN)
          refine ⟨.not a, true, taA.same sN, ch2.low, ch2.wf, d82, .inr ⟨.not a, ⟨x6', d6, u, rfl, hN, uaA.same sN⟩, ch2.low, (aeq_refl (.not a)).symm⟩, fun HO sO => ⟨false, rfl, iteF ?_⟩⟩
          have sZ := sN.trans sO
          refine ⟨_, rfl, _, rfl, _, _, rfl, rfl, (by show 2 ≤ sizeLine; decide), fun t nt => ⟨t, _, rfl, SqT.of upd_same, rfl, _, _, rfl, _, _, rfl, rfl, ?_⟩⟩
          have sZt := sZ.trans (same_upd (o := .tup [.ref x1, .int (m + 1)]) nt)
          exact ⟨m + 1, _, _, _, _, .not a, .ref x1, by omega, by omega, rfl, taA.same sZt, ch2, penA.keep sZt, Tabs.same TA sZt⟩
    · obtain ⟨m, x4, x5, x6, x8, a, u, em, i7, rfl, ua, ch, pX, TX⟩ := p
      refine ⟨TX, fun H6 e6 T6 => ?_⟩
      have pen6 := pX.extN e6
      refine ⟨_, rfl, d, c0, n + 31, ns, rfl, pen6, by omega, fun xv e H7 hx fe pen7 b7 => ?_⟩
      obtain ⟨kv6, hd6⟩ := pen6.dict
      have T7 := Tabs.but T6 b7 hd6
      refine fun x1 d1 n1 m1 _ => ⟨x1, d1, xv, none, rfl, upd_same, .inl ⟨hx.anyV.same (made_start n1 m1), rfl⟩, (fun _ e => by cases e), (fun yes => by cases yes), fun _ dd HE nE sE hE => ⟨rfl, dd, _, _, rfl, hE, look1, fun p1 H9 _ s9a hp1 => ⟨(by show 3 ≤ sizeLine; decide), fun t nt => ?_⟩⟩⟩
      have s9 := ((made_start n1 m1).trans sE).trans (s9a.trans (same_upd (o := .tup [.str "wrong", .str "address", .bl true]) nt))
      refine ⟨wrongD "address", wrongD "address", wrong_dp (same_upd nt _ _ hp1), wrong_dp upd_same, wrong_shaped sok1, wrong_shaped sok1, ?_⟩
      rw [SeqAt.eqv_refl _ (wrong_lay sok1)]
      exact q _ ((pen7.keep s9).le (by omega)) (Tabs.same T7 s9)
end
end LA
end
section
set_option Elab.async false
set_option linter.all false
set_option maxRecDepth 100000
set_option maxHeartbeats 4100000
namespace LA
open PySem PySem.Spec PyProof.Rows L2 XS XT XK XL LamX XO DnX B0X RfX SmX
theorem op_or2 {X : Cx} {o : Value → Value → Sem Value} {R1 R2 : R2} (a : OpR X o R1) (b : OpR X o R2) : OpR X o (fun x y H Q => R1 x y H Q ∨ R2 x y H Q) := by
  intro pins s σ H x y v u Q I rx ry h
  rcases h with h | h
  · exact a pins s σ H x y v u Q I rx ry h
  · exact b pins s σ H x y v u Q I rx ry h
theorem hasR_range {a b : A} : hasR (.range a b) = true := rfl
theorem beg_of {a : A} (h : hasR a = true) : beginR (some a) = false := by
  show (fitA (some a) && !hasR a) = false
  rw [h]
  exact Bool.and_false _
theorem end_of {a : A} (i : a.isA = true) (h : hasR a = true) : endR (some a) = false := by
  show (isCnt (some a) || beginR (some a)) = false
  rw [A.notC i, beg_of h]
  rfl
section
variable {P : Program} {w : World} {K : PySem.W.Frag} {mg : Str → Option Value} {base : Heap} {C fi fe : Nat → Addr} {fdi fde : Nat → FuncData} {CA D : Addr} {p g : Nat → Addr} {fg : Nat → FuncData} {T : List (Addr × Str)}
theorem ok_RgR {f c PP gc fSP fBU fMS fP fAn : Addr} {fd fdg dSP dBU dMS dP dAn : FuncData} (F : FunC K "_law_ranges_right" "_law_ranges_right" sRgR f fd c) (TB : TabB base mg c PP) (here : (PP, lamQ "_law_ranges_right" sRgR) ∈ T) (one : ∀ p ∈ T, p.1 = PP → p.2 = lamQ "_law_ranges_right" sRgR)
    (CU : CauAt K mg D gc fdg) (W : LwA P w K mg base C CA D fi fdi fe fde p g fg) (mR : mg "range" = none)
    (SP : CallOf P w K mg base 7 "_law_spot" ["_law_pen_here", "_law_signs_here", "_law_left", "_law_deep"] spSpo fSP dSP) (BU : CallOf P w K mg base 1 "_law_budget" ["_law_is_tight"] spBud fBU dBU) (MS : CallOf P w K mg base 19 "_law_made_spot" ["_law_spot_here"] (spMS C) fMS dMS)
    (PK : PickAt P w K mg base fP dP) (AN : CallOf P w K mg base 3 "_law_any_value" ["_law_pen_here"] spAny fAn dAn) :
    AtG P w K mg base CX0 20 f fd ["_law_pen_here", "_law_signs_here"] (spRgR T) := by
  refine F.atG scRgR (fun vs H Q E h => ?_) (fun A outer s H vs Q E quiet hr h => ?_)
  · obtain ⟨d, c, n, ns, z, rfl, _⟩ := h
    rfl
  · obtain ⟨d, c0, n, ns, z, rfl, pen, hn, sz, hT, q⟩ := h
    have hu6 := hr.units
    have hr17 : Room 17 _ := hr.mono (by decide)
    have hr15 : Room 15 _ := hr.mono (by decide)
    have hr12 : Room 12 _ := hr.mono (by decide)
    have hr11 : Room 11 _ := hr.mono (by decide)
    have hr7 : Room 7 _ := hr.mono (by decide)
    have hr6 : Room 6 _ := hr.mono (by decide)
    have hr3 : Room 3 _ := hr.mono (by decide)
    have hr2 : Room 2 _ := hr.mono (by decide)
    have hr1 : Room 1 _ := hr.mono (by decide)
    obtain ⟨cdg, GT⟩ := CauAt.taker (X := (cxOf CX0 P w K mg base nRgR "_law_ranges_right" (defScope sRgR) f (.ref c) A outer s H E).nox) CU
    have mk : Maker (cxOf CX0 P w K mg base nRgR "_law_ranges_right" (defScope sRgR) f (.ref c) A outer s H E).nox T c PP := ⟨TB, rfl, here, one⟩
    have c16 := (W.k.cled 16 (by decide) (by decide)).cls
    refine ⟨_, pss_cons (by exact (ps_setLc (i := 2) (own := [("_law_k", 8)]) (g := gName 8) (tt := tYes) (te := tCall spSpo [] (fun _ _ _ => False) (tCons (tVar 0) (tCons (tVar 1) (tCons (tCall spBud [] (fun _ _ _ => False) (tCons (tC (.bl false)) tNil)) (tCons (tC (.int 0)) tNil))))) rfl scRgR.nd rfl rfl (sw_true rfl rfl rfl (by decide +kernel)) (pi_range1 rfl mR (pa_cons pe_int pa_nil))
          (blkOk_by (N := nRgR) (sc := defScope sRgR) (by decide +kernel)) (fun _ _ _ _ _ => by exact (pg_name (i := 8) scRgR.nd rfl (Or.inl rfl))) (fun _ _ _ _ _ => by exact pts_nil)
          (fun _ _ _ _ _ => by exact (pe_call SP.ok hr7 rfl SP.m SP.k SP.b .nil pass0 (pa_cons (pv 0) (pa_cons (pv 1) (pa_cons (pe_call BU.ok hr1 rfl BU.m BU.k BU.b .nil pass0 (pa_cons pe_bl pa_nil)) (pa_cons pe_int pa_nil))))))))
      (pss_cons (by exact (ps_asg (pe_lc (own := [("_law_spot_here", 9)]) (g := gName 9) (tt := tYes) (te := tCall (spMS C) [] (fun _ _ _ => False) (tCons (tVar 9) tNil)) rfl scRgR.nd (pi_list (pv 2))
          (blkOk_by (N := nRgR) (sc := defScope sRgR) (by decide +kernel)) (fun _ _ _ _ _ => by exact (pg_name (i := 9) scRgR.nd rfl (Or.inl rfl))) (fun _ _ _ _ _ => by exact pts_nil)
          (fun _ _ _ _ _ => by exact (pe_call MS.ok hr rfl MS.m MS.k MS.b .nil pass0 (pa_cons (pv 9) pa_nil)))) (pg_lst rfl (pgs_cons (pg_name (i := 6) scRgR.nd rfl (Or.inr rfl)) (pgs_cons (pg_name (i := 3) scRgR.nd rfl (Or.inl rfl)) pgs_nil)))))
      (pss_cons (by exact (ps_set (i := 4) scRgR.nd rfl (.inl rfl) (pe_make W.M.range.made W.M.range.ok hr15 rfl W.N.range W.M.range.b .nil passN (pa_cons (pv 6) (pa_cons (pv 3) pa_nil)))))
      (pss_cons (by exact (ps_if (PW.pt (pw_or (pt_cmpR (op_sameNe (Nat.lt_of_le_of_lt (Nat.le_add_right _ _) hu6)) (pe_tup (pa_cons (pe_prop (pv 4) c16 W.G.start.prop W.G.start.ok hr2 W.G.start.b .nil pass0 rfl) (pa_cons (pe_prop (pv 4) c16 W.G.stop.prop W.G.stop.ok hr2 W.G.stop.b .nil pass0 rfl) pa_nil))) (pe_tup (pa_cons (pv 6) (pa_cons (pv 3) pa_nil))) (nomark _))
          (pw_or (pt_cmpR (op_aNe W.k W.E hr12) (pv 4) (pe_makeK0 W.M.range.made W.M.range.ok hr15 rfl W.N.range W.M.rangeK passN (pk_cons (pv 3) (pk_cons (pv 6) pk_nil))) (nomark _))
          (pw_or1 (pt_cmpR (op_a W.k W.E hr11) (pv 4) (pe_make W.M.not.made W.M.not.ok hr15 rfl W.N.not W.M.not.b .nil passN (pa_cons (pv 6) pa_nil)) (nomark _)))))) (pss_one (by exact (ps_ret pe_bl))) pss_nil))
      (pss_cons (by exact (ps_if (PW.pt (pw_or (pt_cmpR (op_aNe W.k W.E hr12) (pe_prop (pe_make W.M.range.made W.M.range.ok hr15 rfl W.N.range W.M.range.b .nil passN (pa_cons (pv 6) (pa_cons (pe_make W.M.count.made W.M.count.ok hr6 rfl W.N.count W.M.count.b .nil passN (pa_cons pe_int pa_nil)) pa_nil))) c16 W.G.stop.prop W.G.stop.ok hr2 W.G.stop.b .nil pass0 rfl) (pe_make W.M.count.made W.M.count.ok hr6 rfl W.N.count W.M.count.b .nil passN (pa_cons pe_int pa_nil)) (nomark _))
          (pw_or1 (pt_cmpR (op_a W.k W.E hr11) (pe_make W.M.range.made W.M.range.ok hr15 rfl W.N.range W.M.range.b .nil passN (pa_cons (pv 6) (pa_cons (pe_make W.M.count.made W.M.count.ok hr6 rfl W.N.count W.M.count.b .nil passN (pa_cons pe_int pa_nil)) pa_nil))) (pe_make W.M.range.made W.M.range.ok hr15 rfl W.N.range W.M.range.b .nil passN (pa_cons (pv 6) (pa_cons (pe_make W.M.number.made W.M.number.ok hr6 rfl W.N.number W.M.number.b .nil passN (pa_cons pe_int pa_nil)) pa_nil))) (nomark _))))) (pss_one (by exact (ps_ret pe_bl))) pss_nil))
      (pss_cons (by exact (ps_set (i := 7) scRgR.nd rfl (.inr rfl) (pe_call PK.ok hr2 rfl PK.m PK.k PK.b .nil pass0 (pa_cons (pv 0) (pa_cons (pe_lst (pa_cons (pv 4) (pa_cons (pe_make W.M.not.made W.M.not.ok hr15 rfl W.N.not W.M.not.b .nil passN (pa_cons (pv 4) pa_nil)) (pa_cons (pe_make W.M.not.made W.M.not.ok hr15 rfl W.N.not W.M.not.b .nil passN (pa_cons (pe_make W.M.not.made W.M.not.ok hr15 rfl W.N.not W.M.not.b .nil passN (pa_cons (pv 4) pa_nil)) pa_nil)) (pa_cons (pe_call AN.ok hr3 rfl AN.m AN.k AN.b .nil pass0 (pa_cons (pv 0) pa_nil)) (pa_cons (pe_make W.M.count.made W.M.count.ok hr6 rfl W.N.count W.M.count.b .nil passN (pa_cons pe_int pa_nil)) pa_nil)))))) pa_nil)))))
      (pss_cons (by exact (ps_if (pt_cmpR (op_neD hu6) (pe_goL mk GT hr17 rfl (lamS_by (sc := defScope sRgR) (by decide +kernel)) rfl (fun _ _ _ _ _ => rfl) (fun A2 outer2 s2 H2 E2 f2 c2 r => by exact (pe_make W.M.range.made W.M.range.ok r rfl W.N.range W.M.range.b .nil (passes_call (takes_of rfl rfl rfl rfl) (fun _ _ _ _ h => h)) (pa_cons (pv 7) (pa_cons (pv 7) pa_nil))))) (pe_tup (pa_cons pe_str (pa_cons pe_str (pa_cons pe_bl pa_nil)))) (nomark _)) (pss_one (by exact (ps_ret pe_bl))) pss_nil))
      (pss_cons (by exact (ps_set (i := 5) scRgR.nd rfl (.inl rfl) (pe_ifExp (pt_cmpR (op_or2 (op_a W.k W.E hr11) (op_refA W.O W.E hr11)) (pv 7) (pe_make W.M.count.made W.M.count.ok hr6 rfl W.N.count W.M.count.b .nil passN (pa_cons pe_int pa_nil)) (nomark _)) (pe_make W.M.range.made W.M.range.ok hr15 rfl W.N.range W.M.range.b .nil passN (pa_cons (pv 6) (pa_cons (pe_make W.M.count.made W.M.count.ok hr6 rfl W.N.count W.M.count.b .nil passN (pa_cons pe_int pa_nil)) pa_nil))) (pe_tup (pa_cons pe_str (pa_cons pe_str (pa_cons pe_bl pa_nil)))))))
      (pss_one (by exact (ps_ret (pe_cmpR (op_or2 (op_a W.k W.E hr11) (op_eqD hu6)) (pe_goL mk GT hr17 rfl (lamS_by (sc := defScope sRgR) (by decide +kernel)) rfl (fun _ _ _ _ _ => rfl) (fun A2 outer2 s2 H2 E2 f2 c2 r => by exact (pe_make W.M.range.made W.M.range.ok r rfl W.N.range W.M.range.b .nil (passes_call (takes_of rfl rfl rfl rfl) (fun _ _ _ _ h => h)) (pa_cons (pv 6) (pa_cons (pv 7) pa_nil))))) (pv 5) (nomark _)))))))))))), ?_⟩
    have sok2 : PyData.strOk "start" = true := by decide +kernel
    have sok3 : PyData.strOk "stop" = true := by decide +kernel
    refine ⟨_, rfl, by decide, by decide, fun S0 nS => ?_⟩
    obtain ⟨nSd, nSc⟩ := pen.fresh nS
    refine lc_range (fun j Y => (∃ (us : List V) (as : List LA.A), Y S0 = some (.lst us) ∧ us.length = j ∧ Paired (fun a v => SA Y a v) as us) ∧ PenAt Y d c0 (n + 30 * j) ns ∧ Tabs T Y) ⟨⟨[], [], upd_same, rfl, .nil⟩, (pen.put nSd nSc).le (by omega), Tabs.same hT (same_upd nS)⟩ (fun j Y hj p => ?_) (fun Y p => ?_)
    · obtain ⟨⟨us, as, hS, ul, pr⟩, pY, TY⟩ := p
      refine ⟨rfl, ?_⟩
      dsimp only [tYes]
      rw [if_pos rfl]
      have j2 : j < 2 := hj
      obtain ⟨kvY, hdY⟩ := pY.dict
      refine ⟨_, rfl, _, rfl, rfl, fun L H1 lf nL s1 => ⟨d, c0, L, n + 30 * j, ns, z, 6, 2, rfl, pY.keep s1, by omega, sz, lf, Ne.symm (ne_of_none hdY nL), by decide, by decide, fun v a H2 sa pen2 b2 => ?_⟩⟩
      obtain ⟨kvL, lfL⟩ := lf
      have hS1 := s1 _ _ hS
      have hd1 := s1 _ _ hdY
      have hS2 : H2 S0 = some (.lst us) := b2 _ _ hS1 (ne_of hS1 hd1 (by intro z; cases z)) (ne_of hS1 lfL.dc (by intro z; cases z))
      have T2 := Tabs.but2 (Tabs.same TY s1) b2 hd1 lfL.dc
      have up : ∀ (k : LA.A) (x : V), SA H2 k x → SA (upd H2 S0 (.lst (us ++ [v]))) k x := fun _ _ zz => zz.keep fun b xs e => by
        rw [upd_ne (ne_of e hS2 (by intro z; cases z))]
        exact e
      refine ⟨us, hS2, Nat.lt_of_le_of_lt (show us.length ≤ 2 by omega) (by decide), ⟨us ++ [v], as ++ [a], upd_same, by rw [List.length_append, ul]; rfl, pair_app (L2.Paired.mapP pr fun _ _ zz => up _ _ ((zz.same s1).but2 b2 hd1 lfL.dc)) (.cons (up _ _ sa) .nil)⟩, (pen2.put nSd nSc).le (by omega), Tabs.putL T2 hS2⟩
    obtain ⟨⟨us, as, hS, ul, pr⟩, pY, TY⟩ := p
    have ul2 : us.length = 2 := ul
    obtain ⟨a0, a1, v0, v1, rfl, rfl, sa0, sa1⟩ : ∃ a0 a1 v0 v1, as = [a0, a1] ∧ us = [v0, v1] ∧ SA Y a0 v0 ∧ SA Y a1 v1 := by
      cases pr with
      | nil => cases ul2
      | cons h0 pr =>
        cases pr with
        | nil => cases ul2
        | cons h1 pr =>
          cases pr with
          | nil => exact ⟨_, _, _, _, rfl, rfl, h0, h1⟩
          | cons h2 pr => simp at ul2
    clear ul ul2 pr nS hT pen
    have ch0 := sa0.ch
    have ch1 := sa1.ch
    refine ⟨_, rfl, S0, rfl, ⟨_, SqL.of hS⟩, fun M0 nM => ?_⟩
    refine lc_it (walk_list (xs := [v0, v1])) (fun j Z => (∃ ws, Z M0 = some (.lst ws) ∧ ws.length = j ∧ Paired (fun a v => AA C Z a v) (([a0, a1] : List LA.A).take j) ws) ∧ Same Y Z) ⟨⟨[], upd_same, rfl, .nil⟩, same_upd nM⟩ (fun j Z _ p => SqL.of (p.2 _ _ hS)) (fun j x Z Z' hj p yl => ?_) (fun Z p => ?_)
    · obtain ⟨⟨ws, hM, wl, pr⟩, sZ⟩ := p
      obtain ⟨rfl, hx⟩ := yl
      obtain ⟨k, hk, sk⟩ : ∃ k, ([a0, a1] : List LA.A)[j]? = some k ∧ SA Y k x := by
        rcases j with _ | _ | j
        · cases Option.some.inj hx
          exact ⟨_, rfl, sa0⟩
        · cases Option.some.inj hx
          exact ⟨_, rfl, sa1⟩
        · simp at hx
      have j2 : j < 2 := hj
      refine ⟨rfl, ?_⟩
      dsimp only [tYes]
      rw [if_pos rfl]
      refine ⟨_, rfl, k, x, rfl, sk.same sZ, fun u Z2 uk s2 => ?_⟩
      have hM2 := s2 _ _ hM
      have up : ∀ (a : LA.A) (x : V), AA C Z2 a x → AA C (upd Z2 M0 (.lst (ws ++ [u]))) a x := fun _ _ zz => zz.keep fun b _ _ _ e => by
        rw [upd_ne (ne_of e hM2 (by intro z; cases z))]
        exact e
      refine ⟨ws, hM2, Nat.lt_of_le_of_lt (show ws.length ≤ 2 by omega) (by decide), ⟨ws ++ [u], upd_same, by rw [List.length_append, wl]; rfl, ?_⟩, fun b o e => ?_⟩
      · rw [List.take_succ, hk]
        exact pair_app (L2.Paired.mapP pr fun _ _ zz => up _ _ (zz.same s2)) (.cons (up _ _ uk) .nil)
      · rw [upd_ne (ne_of_none e nM)]
        exact s2 _ _ (sZ _ _ e)
    obtain ⟨⟨ws, hM, wl, pr⟩, sZ⟩ := p
    obtain ⟨u0, u1, rfl, ua0, ua1⟩ : ∃ u0 u1, ws = [u0, u1] ∧ AA C Z a0 u0 ∧ AA C Z a1 u1 := by
      have pq : Paired (fun a v => AA C Z a v) [a0, a1] ws := pr
      clear pr
      cases pq with
      | cons h0 pq =>
        cases pq with
        | cons h1 pq =>
          cases pq
          exact ⟨_, _, rfl, h0, h1⟩
    have penZ := pY.keep sZ
    have TZ := Tabs.same TY sZ
    refine ⟨M0, _, rfl, SqL.of hM, rfl, _, _, rfl, _, _, rfl, rfl, ?_⟩
    clear wl sZ nM hM sa0 sa1 hS TY pY
    have b0 : beginR (some a0) = true := by rw [ch0.beg]; decide
    have e1 : endR (some a1) = true := by rw [ch1.end_]; decide
    have f0 : fitA (some a0) = true := by rw [ch0.fit]; decide
    have ok0 := ch0.okIn (by decide)
    have ok1 := ch1.okIn (by decide)
    refine ⟨_, rfl, _, rfl, fun w0 dw nw mw _ => ⟨w0, dw, u0, u1, some a0, some a1, rfl, upd_same, .inr ⟨a0, ua0.same (made_start nw mw), rfl⟩, .inr ⟨a1, ua1.same (made_start nw mw), rfl⟩, ok0, ok1, (fun _ _ H3 hw bw => ⟨rfl, ?_⟩), (fun no => by rw [b0] at no; cases no), fun _ no => by rw [e1] at no; cases no⟩⟩
    have s3 := made_same nw mw bw
    have ub0 := ua0.same s3
    have ub1 := ua1.same s3
    have whole : AA C H3 (.range a0 a1) (.ref w0) := ⟨w0, dw, u0, u1, rfl, hw, ub0, ub1⟩
    have wlow : (LA.A.range a0 a1).low = true := by
      show (a0.low && a1.low) = true
      rw [ch0.low, ch1.low]
      rfl
    have wwf : (LA.A.range a0 a1).wf := ⟨ch0.wf, ch1.wf, ch0.isA⟩
    have wdep : (LA.A.range a0 a1).dep = 2 := by
      show 1 + max a0.dep a1.dep = 2
      rw [ch0.dep, ch1.dep]
      rfl
    have wlen : (LA.A.range a0 a1).all.length = 3 := by
      show ((if a0.isA = true then a0.all else []) ++ (if a1.isA = true then a1.all else [])).length + 1 = 3
      rw [if_pos ch0.isA, if_pos ch1.isA, List.length_append, ch0.len, ch1.len]
    have w8 : (LA.A.range a0 a1).dep ≤ 8 := by rw [wdep]; decide
    have okW : OkIn (some (.range a0 a1)) := fun b e => by
      cases e
      exact ⟨wwf, w8, by rw [wlen]; decide⟩
    have pen3 := penZ.keep s3
    have T3 := Tabs.same TZ s3
    clear nw mw bw s3 ua0 ua1 penZ TZ
    have refs : ∀ x ∈ ([u0, u1] : List V), ∃ c, x = V.ref c := fun x hx => by
      simp only [List.mem_cons, List.not_mem_nil, or_false] at hx
      rcases hx with rfl | rfl
      · obtain ⟨_, p, _, _, e, _⟩ := ub0.at_
        exact ⟨p, e⟩
      · obtain ⟨_, p, _, _, e, _⟩ := ub1.at_
        exact ⟨p, e⟩
    refine ⟨_, rfl, w0, dw, _, rfl, hw, w0, dw, _, _, rfl, hw, lk2a, _, rfl, w0, dw, _, rfl, hw, w0, dw, _, _, rfl, hw, (by first | rfl | simp), (by show 2 ≤ sizeLine; decide), fun t1 nt1 => ⟨_, rfl, _, rfl, (by show 2 ≤ sizeLine; decide), fun t2 nt2 => ?_⟩⟩
    have s4 := (same_upd (o := .tup [u0, u1]) nt1).trans (same_upd (o := .tup [u0, u1]) nt2)
    refine ⟨t1, t2, [u0, u1], rfl, rfl, refs, .inl ⟨same_upd nt2 _ _ upd_same, upd_same⟩, false, rfl, iteF ?_⟩
    refine ⟨_, rfl, _, rfl, _, rfl, rfl, rfl, fun x1 d1 n1 m1 _ => ⟨x1, d1, u0, u1, some a0, some a1, rfl, upd_same, .inr ⟨a0, (ub0.same s4).same (made_start n1 m1), rfl⟩, .inr ⟨a1, (ub1.same s4).same (made_start n1 m1), rfl⟩, ok0, ok1, (fun _ _ H5 h1 b1 => ⟨rfl, ?_⟩), (fun no => by rw [b0] at no; cases no), fun _ no => by rw [e1] at no; cases no⟩⟩
    have s5 := s4.trans (made_same n1 m1 b1)
    refine ⟨.range a0 a1, true, whole.same s5, wlow, wwf, w8, .inr ⟨.range a0 a1, ⟨x1, d1, u0, u1, rfl, h1, ub0.same s5, ub1.same s5⟩, wlow, (aeq_refl (.range a0 a1)).symm⟩, fun H6 s6 => ⟨false, rfl, iteF ?_⟩⟩
    have s56 := s5.trans s6
    refine ⟨_, rfl, _, rfl, fun x2 d2 n2 m2 _ => ⟨x2, d2, u0, some a0, rfl, upd_same, .inr ⟨a0, (ub0.same s56).same (made_start n2 m2), rfl⟩, ok0, (fun _ H7 h2 b2 => ⟨rfl, ?_⟩), fun no => by rw [f0] at no; cases no⟩⟩
    have s7 := s56.trans (made_same n2 m2 b2)
    refine ⟨.range a0 a1, false, whole.same s7, wlow, wwf, w8, .inr ⟨.not a0, ⟨x2, d2, u0, rfl, h2, ub0.same s7⟩, ch0.low, rfl⟩, fun H8 s8 => ⟨false, rfl, iteF ?_⟩⟩
    have s78 := s7.trans s8
    have uc0 := ub0.same s78
    have whole8 := whole.same s78
    have pen8 := pen3.keep s78
    have T8 := Tabs.same T3 s78
    clear s78 s8 s7 h2 b2 n2 m2 s56 s6 s5 h1 b1 n1 m1 s4 nt1 nt2 pen3 T3 whole ub0 ub1 refs hw
    -- with a count
    refine ⟨_, rfl, fun y1 e1' n1 m1 _ => ⟨y1, e1', (fun _ => True), _, .int 2, rfl, upd_same, .int 2, fun _ HA hA bA => ⟨rfl, ?_⟩, fun no => by cases no⟩⟩
    have sA := made_same n1 m1 bA
    refine fun y2 e2 n2 m2 _ => ⟨y2, e2, u0, .ref y1, some a0, some (.count 2), rfl, upd_same, .inr ⟨a0, (uc0.same sA).same (made_start n2 m2), rfl⟩, .inr ⟨.count 2, ⟨y1, e1', rfl, made_start n2 m2 _ _ hA⟩, rfl⟩, ok0, okIn_count, (fun _ _ HB hB bB => ⟨rfl, ?_⟩), (fun no => by rw [b0] at no; cases no), fun _ no => by cases no⟩
    have sB0 := made_same n2 m2 bB
    have sB := sA.trans sB0
    have hAB := sB0 _ _ hA
    refine ⟨y2, e2, _, rfl, hB, y2, e2, _, _, rfl, hB, (by first | rfl | simp), ?_⟩
    refine fun y3 e3 n3 m3 _ => ⟨y3, e3, (fun _ => True), _, .int 2, rfl, upd_same, .int 2, fun _ HD hD bD => ⟨rfl, ?_⟩, fun no => by cases no⟩
    have sD0 := made_same n3 m3 bD
    refine ⟨.count 2, true, ⟨y1, e1', rfl, sD0 _ _ hAB⟩, rfl, trivial, (by show 0 ≤ 8; decide), .inr ⟨.count 2, ⟨y3, e3, rfl, hD⟩, rfl, rfl⟩, fun HE sE => ⟨false, rfl, iteF ?_⟩⟩
    have sBE := sB.trans (sD0.trans sE)
    clear hD bD n3 m3 sD0 hB bB n2 m2 hA bA n1 m1 hAB sB0 sA sB sE
    refine ⟨_, rfl, fun y4 e4 n4 m4 _ => ⟨y4, e4, (fun _ => True), _, .int 2, rfl, upd_same, .int 2, fun _ HF hF bF => ⟨rfl, ?_⟩, fun no => by cases no⟩⟩
    have sF := sBE.trans (made_same n4 m4 bF)
    refine fun y5 e5 n5 m5 _ => ⟨y5, e5, u0, .ref y4, some a0, some (.count 2), rfl, upd_same, .inr ⟨a0, (uc0.same sF).same (made_start n5 m5), rfl⟩, .inr ⟨.count 2, ⟨y4, e4, rfl, made_start n5 m5 _ _ hF⟩, rfl⟩, ok0, okIn_count, (fun _ _ HG hG bG => ⟨rfl, ?_⟩), (fun no => by rw [b0] at no; cases no), fun _ no => by cases no⟩
    have sG0 := made_same n5 m5 bG
    have sG := sF.trans sG0
    have hFG := sG0 _ _ hF
    refine ⟨_, rfl, fun y6 e6 n6 m6 _ => ⟨y6, e6, (fun _ => True), _, .int 2, rfl, upd_same, .int 2, fun _ HI hI bI => ⟨rfl, ?_⟩, fun no => by cases no⟩⟩
    have sI0 := made_same n6 m6 bI
    have sI := sG.trans sI0
    have hGI := sI0 _ _ hG
    have hFI := sI0 _ _ hFG
    have eN : endR (some (.number 2)) = true := by decide
    refine fun y7 e7 n7 m7 _ => ⟨y7, e7, u0, .ref y6, some a0, some (.number 2), rfl, upd_same, .inr ⟨a0, (uc0.same sI).same (made_start n7 m7), rfl⟩, .inr ⟨.number 2, ⟨y6, e6, rfl, made_start n7 m7 _ _ hI⟩, rfl⟩, ok0, (fun b e => by cases e; exact ⟨trivial, by decide, by decide⟩), (fun _ _ HJ hJ bJ => ⟨rfl, ?_⟩), (fun no => by rw [b0] at no; cases no), fun _ no => by rw [eN] at no; cases no⟩
    have sJ0 := made_same n7 m7 bJ
    have sJ := sI.trans sJ0
    have lowC : ∀ x : LA.A, x.low = true → (LA.A.range a0 x).low = true := fun x h => by
      show (a0.low && x.low) = true
      rw [ch0.low, h]
      rfl
    have dC : (LA.A.range a0 (.count 2)).dep ≤ 8 := by
      show 1 + max a0.dep 0 ≤ 8
      rw [ch0.dep]
      decide
    have dC1 : (LA.A.range a0 (.count 1)).dep ≤ 8 := dC
    refine ⟨.range a0 (.count 2), false, ⟨y5, e5, u0, .ref y4, rfl, sJ0 _ _ hGI, uc0.same sJ, ⟨y4, e4, rfl, sJ0 _ _ hFI⟩⟩, lowC _ rfl, ⟨ch0.wf, trivial, ch0.isA⟩, dC, .inr ⟨.range a0 (.number 2), ⟨y7, e7, u0, .ref y6, rfl, hJ, uc0.same sJ, ⟨y6, e6, rfl, sJ0 _ _ hI⟩⟩, lowC _ rfl, (Bool.and_false _).symm⟩, fun HK sK => ⟨false, rfl, iteF ?_⟩⟩
    have sZZ := sJ.trans sK
    have ud0 := uc0.same sZZ
    have wholeK := whole8.same sZZ
    have penK := pen8.keep sZZ
    have TK := Tabs.same T8 sZZ
    clear sZZ sK sJ sJ0 hJ bJ n7 m7 sI sI0 hI bI n6 m6 hGI hFI sG sG0 hG bG hFG sF hF bF n5 m5 n4 m4 sBE uc0 whole8 pen8 T8
    -- what does not fit
    have fw : fitA (some (.range a0 a1)) = true := by
      show (true && decide ((LA.A.range a0 a1).dep < 8)) = true
      rw [wdep]
      rfl
    have fw1 : fitA (some (.not (.range a0 a1))) = true := by
      show (true && decide (1 + (LA.A.range a0 a1).dep < 8)) = true
      rw [wdep]
      rfl
    have ok1W : OkIn (some (.not (.range a0 a1))) := fun b e => by
      cases e
      exact ⟨⟨wwf, rfl⟩, by show 1 + (LA.A.range a0 a1).dep ≤ 8; rw [wdep]; decide, by show (LA.A.range a0 a1).all.length + 1 ≤ 1000; rw [wlen]; decide⟩
    have ok2W : OkIn (some (.not (.not (.range a0 a1)))) := fun b e => by
      cases e
      exact ⟨⟨⟨wwf, rfl⟩, rfl⟩, by show 1 + (1 + (LA.A.range a0 a1).dep) ≤ 8; rw [wdep]; decide, by show (LA.A.range a0 a1).all.length + 1 + 1 ≤ 1000; rw [wlen]; decide⟩
    refine ⟨_, rfl, _, rfl, _, rfl, fun y1 g1 n1 m1 _ => ⟨y1, g1, .ref w0, some (.range a0 a1), rfl, upd_same, .inr ⟨_, wholeK.same (made_start n1 m1), rfl⟩, okW, (fun _ HA hA bA => ⟨rfl, ?_⟩), fun no => by rw [fw] at no; cases no⟩⟩
    have sA := made_same n1 m1 bA
    refine ⟨_, rfl, fun y2 g2 n2 m2 _ => ⟨y2, g2, .ref w0, some (.range a0 a1), rfl, upd_same, .inr ⟨_, (wholeK.same sA).same (made_start n2 m2), rfl⟩, okW, (fun _ HB hB bB => ⟨rfl, ?_⟩), fun no => by rw [fw] at no; cases no⟩⟩
    have sB0 := made_same n2 m2 bB
    have sB := sA.trans sB0
    refine fun y3 g3 n3 m3 _ => ⟨y3, g3, .ref y2, some (.not (.range a0 a1)), rfl, upd_same, .inr ⟨.not (.range a0 a1), ⟨y2, g2, .ref w0, rfl, made_start n3 m3 _ _ hB, (wholeK.same sB).same (made_start n3 m3)⟩, rfl⟩, ok1W, (fun _ HD hD bD => ⟨rfl, ?_⟩), fun no => by rw [fw1] at no; cases no⟩
    have sD0 := made_same n3 m3 bD
    have sD := sB.trans sD0
    have not1 : AA C HD (.not (.range a0 a1)) (.ref y1) := ⟨y1, g1, .ref w0, rfl, sD0 _ _ (sB0 _ _ hA), wholeK.same sD⟩
    have not2 : AA C HD (.not (.not (.range a0 a1))) (.ref y3) := ⟨y3, g3, .ref y2, rfl, hD, ⟨y2, g2, .ref w0, rfl, sD0 _ _ hB, wholeK.same sD⟩⟩
    have wD := wholeK.same sD
    have penD := penK.keep sD
    have TD := Tabs.same TK sD
    have ue0 := ud0.same sD
    clear sD sD0 hD bD n3 m3 sB sB0 hB bB n2 m2 sA hA bA n1 m1 wholeK penK TK ud0
    obtain ⟨kvD, hdD⟩ := penD.dict
    refine ⟨_, rfl, d, c0, _, ns, rfl, penD, (by omega), fun xv xe HE hx fe penE bE => ?_⟩
    refine fun y4 g4 n4 m4 _ => ⟨y4, g4, (fun _ => True), _, .int 1, rfl, upd_same, .int 1, fun _ HF hF bF => ⟨rfl, (by show 5 ≤ sizeLine; decide), fun L nL => ?_⟩, fun no => by cases no⟩
    have sF := (made_same n4 m4 bF).trans (same_upd (o := .lst [.ref w0, .ref y1, .ref y3, xv, .ref y4]) nL)
    have hL : (upd HF L (.lst [.ref w0, .ref y1, .ref y3, xv, .ref y4])) L = some (.lst [.ref w0, .ref y1, .ref y3, xv, .ref y4]) := upd_same
    have hF2 := same_upd (o := .lst [.ref w0, .ref y1, .ref y3, xv, .ref y4]) nL _ _ hF
    have hxF := hx.same sF
    have wF := (wD.but bE hdD).same sF
    have not1F := (not1.but bE hdD).same sF
    have not2F := (not2.but bE hdD).same sF
    have penF := penE.keep sF
    have TF := Tabs.same (Tabs.but TD bE hdD) sF
    have ufF := (ue0.but bE hdD).same sF
    generalize upd HF L (.lst [.ref w0, .ref y1, .ref y3, xv, .ref y4]) = HG at sF hL hF2 hxF wF not1F not2F penF TF ufF ⊢
    obtain ⟨kvG, hdG⟩ := penF.dict
    refine ⟨d, c0, _, ns, _, rfl, penF, by omega, .inl ⟨L, _, rfl, hL, (by show 0 < 5; decide), (by show 5 < 1000000; decide), fun o HH ho penH bH => ?_⟩⟩
    have TH := Tabs.but TF bH hdG
    have ug := ufF.but bH hdG
    have nR : ∀ x : LA.A, x.isA = true → hasR x = true → x.low = true → x.wf → x.dep ≤ 8 → aeq x (.count 1) = false → beginR (some x) = false ∧ (some x = some (LA.A.count 1) ∨ (endR (some x) = false ∧ ∀ b, some x = some b → b.low = true ∧ b.wf ∧ b.dep ≤ 8 ∧ aeq b (.count 1) = false)) := fun x i r l wf d8 e => ⟨beg_of r, .inr ⟨end_of i r, fun b z => by cases z; exact ⟨l, wf, d8, e⟩⟩⟩
    obtain ⟨oo, th, oko, bo, kind⟩ : ∃ oo : Option LA.A, ThV C HH o oo ∧ OkIn oo ∧ beginR oo = false ∧ (oo = some (.count 1) ∨ (endR oo = false ∧ ∀ b, oo = some b → b.low = true ∧ b.wf ∧ b.dep ≤ 8 ∧ aeq b (.count 1) = false)) := by
      simp only [List.mem_cons, List.not_mem_nil, or_false] at ho
      rcases ho with rfl | rfl | rfl | rfl | rfl
      · exact ⟨_, .inr ⟨_, wF.but bH hdG, rfl⟩, okW, nR _ rfl rfl wlow wwf w8 rfl⟩
      · exact ⟨_, .inr ⟨_, not1F.but bH hdG, rfl⟩, ok1W, nR _ rfl rfl wlow (ok1W _ rfl).1 (ok1W _ rfl).2.1 rfl⟩
      · exact ⟨_, .inr ⟨_, not2F.but bH hdG, rfl⟩, ok2W, nR _ rfl rfl wlow (ok2W _ rfl).1 (ok2W _ rfl).2.1 rfl⟩
      · exact ⟨none, .inl ⟨(hxF.but bH (fun z => z.1 rfl)).anyV, rfl⟩, (fun _ e => by cases e), rfl, .inr ⟨rfl, fun _ e => by cases e⟩⟩
      · exact ⟨_, .inr ⟨.count 1, ⟨y4, g4, rfl, bH _ _ hF2 (ne_of hF2 hdG (by intro z; cases z))⟩, rfl⟩, okIn_count, rfl, .inl rfl⟩
    clear ho wF not1F not2F hxF hF2 hL
    have thx : ∀ {H1 H2 : Hp}, ExtN H1 H2 → ThV C H1 o oo → ThV C H2 o oo := fun e h => h.imp (fun h => ⟨h.1.keep fun b o2 eb k => e b o2 eb (fun ps z => by rcases k with ⟨_, rfl⟩ | ⟨_, rfl⟩ | ⟨_, rfl⟩ <;> cases z), h.2⟩) fun ⟨a, h, e2⟩ => ⟨a, h.ext e, e2⟩
    refine ⟨TH, fun HI eI TI => ?_⟩
    have thI := thx eI th
    refine ⟨_, rfl, _, rfl, fun x1 d1 n1 m1 _ => ⟨x1, d1, o, o, oo, oo, rfl, upd_same, thI.same (made_start n1 m1), thI.same (made_start n1 m1), oko, oko, (fun yes => by rw [bo] at yes; cases yes), (fun _ dd HJ nJ sJ hJ => ⟨rfl, dd, _, _, rfl, hJ, look1, fun p1 HK _ sKa hp1 => ⟨(by show 3 ≤ sizeLine; decide), fun t nt => ?_⟩⟩), fun yes => by rw [bo] at yes; cases yes⟩⟩
    have sK := ((made_start n1 m1).trans sJ).trans (sKa.trans (same_upd (o := .tup [.str "wrong", .str "start", .bl true]) nt))
    refine ⟨wrongD "start", wrongD "start", wrong_dp (same_upd nt _ _ hp1), wrong_dp upd_same, wrong_shaped sok2, wrong_shaped sok2, _, rfl, ?_⟩
    rw [SeqAt.eqv_refl _ (wrong_lay sok2)]
    refine iteF ?_
    have thK := thI.same sK
    have uk := (ug.ext eI).same sK
    have penL := (penH.extN eI).keep sK
    have TL := Tabs.same TI sK
    generalize upd HK t (.tup [.str "wrong", .str "start", .bl true]) = HL at sK thK uk penL TL ⊢
    clear thI ug penH TH sK hp1 sKa hJ sJ n1 m1 th eI
    refine ⟨_, rfl, fun y1 g1 n1 m1 _ => ⟨y1, g1, (fun _ => True), _, .int 1, rfl, upd_same, .int 1, fun _ HM hM bM => ⟨rfl, ?_⟩, fun no => by cases no⟩⟩
    have sM := made_same n1 m1 bM
    have thM := thK.same sM
    have um := uk.same sM
    have penM := penL.keep sM
    have TM := Tabs.same TL sM
    clear n1 m1 bM sM thK uk penL TL
    rcases kind with rfl | ⟨eo, ko⟩
    · obtain ⟨_, z⟩ | ⟨a', th', z⟩ := thM
      · cases z
      cases z
      refine .inl ⟨.count 1, true, th', rfl, trivial, (by show 0 ≤ 8; decide), .inr ⟨.count 1, ⟨y1, g1, rfl, hM⟩, rfl, rfl⟩, fun HN sN => ⟨_, rfl, iteT ?_⟩⟩
      refine ⟨_, rfl, fun y2 g2 n2 m2 _ => ⟨y2, g2, (fun _ => True), _, .int 1, rfl, upd_same, .int 1, fun _ HO hO bO => ⟨rfl, ?_⟩, fun no => by cases no⟩⟩
      have sO := sN.trans (made_same n2 m2 bO)
      refine fun y3 g3 n3 m3 _ => ⟨y3, g3, u0, .ref y2, some a0, some (.count 1), rfl, upd_same, .inr ⟨a0, (um.same sO).same (made_start n3 m3), rfl⟩, .inr ⟨.count 1, ⟨y2, g2, rfl, made_start n3 m3 _ _ hO⟩, rfl⟩, ok0, okIn_count, (fun _ _ HP hP bP => ⟨rfl, ?_⟩), (fun no => by rw [b0] at no; cases no), fun _ no => by cases no⟩
      have sP0 := made_same n3 m3 bP
      have sP := sO.trans sP0
      have due : AA C HP (.range a0 (.count 1)) (.ref y3) := ⟨y3, g3, u0, .ref y2, rfl, hP, um.same sP, ⟨y2, g2, rfl, sP0 _ _ hO⟩⟩
      refine ⟨Tabs.same TM sP, fun HQ eQ TQ => ?_⟩
      refine ⟨_, rfl, _, rfl, fun y5 g5 n5 m5 _ => ⟨y5, g5, u0, o, some a0, some (.count 1), rfl, upd_same, .inr ⟨a0, ((um.same sP).ext eQ).same (made_start n5 m5), rfl⟩, .inr ⟨.count 1, ((th'.same sP).ext eQ).same (made_start n5 m5), rfl⟩, ok0, okIn_count, (fun _ _ HR hR bR => ⟨rfl, ?_⟩), (fun no => by rw [b0] at no; cases no), fun _ no => by cases no⟩⟩
      have sR := made_same n5 m5 bR
      refine ⟨_, rfl, .inl ⟨.range a0 (.count 1), true, ⟨y5, g5, u0, o, rfl, hR, ((um.same sP).ext eQ).same sR, ((th'.same sP).ext eQ).same sR⟩, lowC _ rfl, ⟨ch0.wf, trivial, ch0.isA⟩, dC1, .inr ⟨.range a0 (.count 1), (due.ext eQ).same sR, lowC _ rfl, (aeq_refl (.range a0 (.count 1))).symm⟩, fun HS sS => ?_⟩⟩
      exact q _ (((((penM.keep sP).extN eQ).keep sR).keep sS).le (by omega)) (Tabs.same (Tabs.same TQ sR) sS)
    · have thM2 := thM
      rcases thM with ⟨av, e⟩ | ⟨b, tb, e⟩
      case' inl =>
        obtain ⟨ty, hty, nby⟩ := av.tyb (K := K)
        refine .inr ⟨.count 1, ty, ⟨y1, g1, rfl, hM⟩, rfl, trivial, (by show 0 ≤ 8; decide), hty, nby, av, fun HN sN => ⟨_, rfl, iteF ?_⟩⟩
      case' inr =>
        obtain ⟨bl, bw, bd, be⟩ := ko b e
        refine .inl ⟨b, false, tb, bl, bw, bd, .inr ⟨.count 1, ⟨y1, g1, rfl, hM⟩, rfl, be.symm⟩, fun HN sN => ⟨_, rfl, iteF ?_⟩⟩
      all_goals
        refine ⟨(by show 3 ≤ sizeLine; decide), fun t1 nt1 => ?_⟩
        have sP := sN.trans (same_upd (o := .tup [.str "wrong", .str "stop", .bl true]) nt1)
        have due : (upd HN t1 (.tup [.str "wrong", .str "stop", .bl true])) t1 = some (.tup [.str "wrong", .str "stop", .bl true]) := upd_same
        refine ⟨Tabs.same TM sP, fun HQ eQ TQ => ?_⟩
        have dueQ := eQ _ _ due (fun _ z => by cases z)
        have thQ := thx eQ (thM2.same sP)
        refine ⟨_, rfl, _, rfl, fun y5 g5 n5 m5 _ => ⟨y5, g5, u0, o, some a0, oo, rfl, upd_same, .inr ⟨a0, ((um.same sP).ext eQ).same (made_start n5 m5), rfl⟩, thQ.same (made_start n5 m5), ok0, oko, (fun _ yes => by rw [eo] at yes; cases yes), (fun no => by rw [b0] at no; cases no), fun _ _ dd HJ nJ sJ hJ => ⟨rfl, dd, _, _, rfl, hJ, look1, fun p1 HR _ sRa hp1 => ?_⟩⟩⟩
        have sR := (made_start n5 m5).trans (sJ.trans sRa)
        refine ⟨_, rfl, .inr ⟨wrongD "stop", wrongD "stop", wrong_dp hp1, wrong_dp (sR _ _ dueQ), wrong_shaped sok3, wrong_shaped sok3, ?_⟩⟩
        rw [SeqAt.eqv_refl _ (wrong_lay sok3)]
        exact q _ ((((penM.keep sP).extN eQ).keep sR).le (by omega)) (Tabs.same TQ sR)
end
end LA
end
section
set_option Elab.async false
set_option linter.all false
set_option maxRecDepth 100000
set_option maxHeartbeats 4100000
namespace XK
open PySem PySem.Spec PyProof.Rows L2 LamX
/-! ### a law that makes lambdas and calls repr: its own def, attached where no repr is under way, with tables of code objects -/
theorem caller_runsT {P : Program} {w : World} {K : PySem.W.Frag} {mg mb : Str → Option Value} {k : Nat} {fa a : Addr} {cs : List (Addr × Addr)} {fd : FuncData} {x : Str} {sp : Sp} {s₁ : Shared} {vs : List Value} {ns : List Int}
    (inn : K.In s₁.heap) (glob : s₁.heap.Ns mainGlobals mg) (bns : s₁.heap.Ns builtinsNs mb) (boot : ∀ x : Str, x ≠ "__name__" → mb x = bootBuiltins x) (lim : s₁.heap.NoLimit) (gens : s₁.gens = #[])
    (tabs : ∀ p ∈ cs, s₁.heap.get? p.2 = some { cls := .none, data := .fields #[] }) (notK : ∀ p ∈ cs, K.lookup p.2 = none) (codes : ∀ p ∈ cs, PySem.W.CodeHd s₁.heap p.1 p.2)
    (bmod : ∃ (bm : Addr) (ob : Obj), mg "__builtins__" = some (.ref bm) ∧ bm ≠ builtinsNs ∧ s₁.heap.get? bm = some ob ∧ ob.cls = .type "module" ∧ ob.dict = some builtinsNs ∧ ob.data = .plain)
    (obj : s₁.heap.get? a = some { cls := .type "list", data := .seq vs.toArray }) (inz : IntsAre vs ns) (short : ns.length ≤ sizeLine) (room : Room k callerA)
    (F : ∀ base : Heap, K.In base → base.Ns mainGlobals mg → (∀ p ∈ cs, TabB base mg p.1 p.2) → AtCaller P w K mg base CX0 k fa fd [x] sp) (bind : ∀ (s : Shared) (u : Value), BindsTo s fd ⟨[u], []⟩ [(x, u)])
    (want : ∀ H : Hp, (∀ p ∈ cs, H p.2 = some (.tbl #[])) → SqL K H a (ns.map V.int) → sp [.ref a] H (fun v _ => v = .bl true) fun _ _ _ => False) :
    codeAny (model P w) callerA (.call (.ref fa) ⟨[.ref a], []⟩) (fun r s' => r = .ok (.ret (.bool true)) ∧ OldK s₁.heap s'.heap ∧ s'.os = s₁.os ∧ AllBare s'.gens) s₁ := by
  have vals := vals_ints inz
  have many := inz.length
  have tabAt : ∀ b ∈ cs.map (·.2), s₁.heap.get? b = some { cls := .none, data := .fields #[] } := fun b hb => by
    obtain ⟨p, hp, e⟩ := List.mem_map.mp hb
    rw [← e]
    exact tabs p hp
  have aOut : a ∉ cs.map (·.2) := fun z => by
    have q := (tabAt a z).symm.trans obj
    have q := congrArg Obj.data (Option.some.inj q)
    cases q
  have inT : ∀ p ∈ cs, p.2 ∈ cs.map (·.2) := fun p hp => List.mem_map.mpr ⟨p, hp, rfl⟩
  have main : ∀ H : Hp, (∀ p ∈ cs, H p.2 = some (.tbl #[])) → (∀ b, H b = none ∨ b ∈ cs.map (·.2) ∨ ∃ ob xs, H b = some (.frz ob (.lst xs))) → SqL K H a (ns.map V.int) → HOk P w H s₁.heap → (∀ b, H b ≠ none → b = a ∨ b ∈ cs.map (·.2)) → (H a ≠ none → K.lookup a = none) →
      codeAny (model P w) callerA (.call (.ref fa) ⟨[.ref a], []⟩) (fun r s' => r = .ok (.ret (.bool true)) ∧ OldK s₁.heap s'.heap ∧ s'.os = s₁.os ∧ AllBare s'.gens) s₁ := by
    intro H tH kinds seq ok alone noK
    have plain : ∀ {b : Addr} {o : Obj}, s₁.heap.get? b = some o → (∀ us n, o.data ≠ .seq us n) → o.data ≠ .fields #[] → H b = none := fun {b o} e n1 n2 => by
      cases q : H b with
      | none => rfl
      | some u =>
        cases alone b (by rw [q]; simp) with
        | inl z =>
          rw [z, obj] at e
          cases e
          exact (n1 _ _ rfl).elim
        | inr z =>
          rw [tabAt b z] at e
          cases e
          exact (n2 rfl).elim
    have dct : ∀ {b : Addr} {o : Obj} {es : Array DictEntry} {ep : Nat}, s₁.heap.get? b = some o → o.data = .dict es ep → H b = none := fun {b o es ep} e d => plain e (fun us n z => by rw [d] at z; cases z) fun z => by rw [d] at z; cases z
    have space : ∀ {b : Addr} {m : Str → Option Value}, s₁.heap.Ns b m → (hidT s₁.heap H).Ns b m := fun {b m} ⟨o, es, ep, e, d, r⟩ => ⟨o, es, ep, hidT_get e (dct e d), d, r⟩
    have kept : K.In (hidT s₁.heap H) := fun b o e => hidT_get (inn b o e) (by
      cases q : H b with
      | none => rfl
      | some u =>
        cases alone b (by rw [q]; simp) with
        | inl z =>
          rw [z] at e q
          rw [noK (by rw [q]; simp)] at e
          cases e
        | inr z =>
          obtain ⟨p, hp, ep⟩ := List.mem_map.mp z
          rw [← ep, notK p hp] at e
          cases e)
    have md : Mod K mg (hidT s₁.heap H) := ⟨kept, space glob, ⟨mb, space bns, boot⟩, by
      obtain ⟨mc, h1, h2⟩ := lim
      exact ⟨mc, space h1, h2⟩⟩
    have env : Env0 P w K mg (hidT s₁.heap H) callerA [] s₁ H := ⟨rfl, md, fun b o e => of_hidT e, Nat.le_of_eq (hidT_size _ _), trivial, fun b hb => (by cases hb), ok, AllBare.of_eq gens⟩
    have tb : ∀ p ∈ cs, TabB (hidT s₁.heap H) mg p.1 p.2 := fun p hp => by
      have here := tabs p hp
      refine ⟨?_, ?_, fun z => ?_⟩
      · obtain ⟨o, us, file, tf, flags, tg, inF, text, tt, e1, r1, r2, r3, r4, r5, r6, r7, r8, last⟩ := codes p hp
        refine ⟨o, us, file, tf, flags, tg, inF, text, tt, hidT_get e1 (plain e1 (fun us n z => ?_) fun z => ?_), r1, r2, r3, r4, r5, r6, r7, r8, last⟩
        · rw [r2] at z
          cases z
        · rw [r2] at z
          cases z
          simp at r3
      · obtain ⟨bm, ob, b1, b2, b3, b4, b5, b6⟩ := bmod
        refine ⟨bm, ob, b1, b2, fun q => ?_, fun q => ?_, hidT_get b3 (plain b3 (fun us n z => by rw [b6] at z; cases z) fun z => by rw [b6] at z; cases z), b4, b5, b6⟩
        · obtain ⟨o, es, ep, e, d, _⟩ := glob
          rw [q, e] at b3
          cases b3
          rw [d] at b6
          cases b6
        · rw [q, here] at b3
          cases b3
          cases b6
      · obtain ⟨o, es, ep, e, d, _⟩ := glob
        rw [z, here] at e
        cases e
        cases d
    have res := (F _ kept (space glob) tb).go [] s₁ H ⟨[.ref a], []⟩ [.ref a] [.ref a] _ _ room env (bind s₁ (.ref a)) (.cons rfl .nil) (want H tH seq)
    refine codeAny_mono res fun r s' h => ?_
    cases r with
    | error e => exact False.elim h
    | ok fl =>
      cases fl with
      | next => exact False.elim h
      | brk => exact False.elim h
      | cont => exact False.elim h
      | ret u =>
        obtain ⟨v, H', os, bare, un, ok', rel, q⟩ := h
        obtain rfl : v = .bl true := q
        obtain rfl : u = Value.bool true := rel
        have stays : ∀ b o, b ∉ cs.map (·.2) → s₁.heap.get? b = some o → s'.heap.get? b = some o := fun b o nb e => by
          rcases kinds b with z | z | ⟨ob, xs, z⟩
          · exact un.keep b o e z (fun z => by cases z) (fun z => by cases z)
          · exact absurd z nb
          · obtain ⟨e1, _⟩ := ok b _ z
            obtain ⟨e2, _⟩ := ok' b _ (un.frzs b ob _ z)
            rw [e] at e1
            cases e1
            exact e2
        have grown : ∀ p ∈ cs, ∃ more : Array Value, s'.heap.get? p.2 = some { cls := .none, data := .fields more } := fun p hp => by
          obtain ⟨more, z⟩ := un.tbls p.2 #[] (tH p hp)
          exact ⟨_, ok' p.2 _ z⟩
        refine ⟨rfl, ⟨fun b o e => ?_, fun b o e => ?_⟩, os, bare⟩
        · by_cases hb : b ∈ cs.map (·.2)
          · obtain ⟨p, hp, ep⟩ := List.mem_map.mp hb
            obtain ⟨more, hm⟩ := grown p hp
            subst ep
            rw [tabs p hp] at e
            cases e
            exact .inr (.inl ⟨((codes p hp).tab (tabs p hp)).isCodeTable, rfl, #[], more, rfl, by rw [Array.empty_append]; exact hm⟩)
          · exact .inl (stays b o hb e)
        · by_cases hb : b ∈ cs.map (·.2)
          · obtain ⟨p, hp, ep⟩ := List.mem_map.mp hb
            obtain ⟨more, hm⟩ := grown p hp
            subst ep
            exact ⟨_, hm⟩
          · exact ⟨o, stays b o hb e⟩
  cases hk : K.lookup a with
  | some o =>
    have e := inn a o hk
    rw [obj] at e
    cases e
    refine main (fun b => if b ∈ cs.map (·.2) then some (.tbl #[]) else none) (fun p hp => if_pos (inT p hp)) (fun b => ?_) (.inr ⟨_, vs.toArray, _, hk, rfl, rfl, rfl, by rw [List.size_toArray, many]; exact short, by simpa using vals⟩) (fun b u z => ?_) (fun b z => ?_) fun z => absurd (if_neg aOut) z
    · by_cases hb : b ∈ cs.map (·.2)
      · exact .inr (.inl hb)
      · exact .inl (if_neg hb)
    · by_cases hb : b ∈ cs.map (·.2)
      · cases (if_pos hb).symm.trans z
        exact tabAt b hb
      · cases (if_neg hb).symm.trans z
    · by_cases hb : b ∈ cs.map (·.2)
      · exact .inr hb
      · exact absurd (if_neg hb) z
  | none =>
    refine main (fun b => if b = a then some (.frz { cls := .type "list", data := .seq vs.toArray } (.lst (ns.map V.int))) else if b ∈ cs.map (·.2) then some (.tbl #[]) else none) (fun p hp => (if_neg (fun z : p.2 = a => aOut (by rw [← z]; exact inT p hp))).trans (if_pos (inT p hp))) (fun b => ?_)
      (.inl (.inr ⟨_, if_pos rfl⟩)) (fun b u z => ?_) (fun b z => ?_) fun _ => hk
    · by_cases hb : b = a
      · exact .inr (.inr ⟨_, _, if_pos hb⟩)
      · by_cases h2 : b ∈ cs.map (·.2)
        · exact .inr (.inl h2)
        · exact .inl ((if_neg hb).trans (if_neg h2))
    · by_cases hb : b = a
      · cases (if_pos hb).symm.trans z
        rw [hb]
        exact ⟨obj, by rw [List.length_map]; exact short, vs, _, vals, obj⟩
      · have z1 := (if_neg hb).symm.trans z
        by_cases h2 : b ∈ cs.map (·.2)
        · cases (if_pos h2).symm.trans z1
          exact tabAt b h2
        · cases (if_neg h2).symm.trans z1
    · by_cases hb : b = a
      · exact .inl hb
      · by_cases h2 : b ∈ cs.map (·.2)
        · exact .inr h2
        · exact absurd ((if_neg hb).trans (if_neg h2)) z
/-- what is known of such a law at the head's heap h -/
def CallerAtT (l : PySem.W.OpenLaw) (w : World) (K : PySem.W.Frag) (k n : Nat) (x : Str) (mg : Str → Option Value) (fa : Addr) (h : Heap) : Prop :=
  ∃ (fd : FuncData) (cs : List (Addr × Addr)) (sp : Sp), (∀ p ∈ cs, h.get? p.2 = some { cls := .none, data := .fields #[] }) ∧ (∀ p ∈ cs, K.lookup p.2 = none) ∧ (∀ p ∈ cs, PySem.W.CodeHd h p.1 p.2) ∧ (∀ (s : Shared) (u : Value), BindsTo s fd ⟨[u], []⟩ [(x, u)]) ∧
    (∀ (H : Hp) (a : Addr) (ns : List Int), ns.length ≤ n → (∀ p ∈ cs, H p.2 = some (.tbl #[])) → SqL K H a (ns.map V.int) → sp [.ref a] H (fun v _ => v = .bl true) fun _ _ _ => False) ∧
    ∀ base : Heap, K.In base → base.Ns mainGlobals mg → (∀ p ∈ cs, TabB base mg p.1 p.2) → AtCaller l.prog w K mg base CX0 k fa fd [x] sp
theorem caller_walkT {l : PySem.W.OpenLaw} {n k : Nat} {q : Program} {loose : List Str} {XP : (Str → Option Value) → Heap → Prop} {YP : World → Heap → Prop} {d : DefRec} {K : Params → PySem.W.Frag} {x : Str}
    (most : l.most = some n) (small : n ≤ sizeLine) (plain : d.params.defaults = []) (room : Room k callerA) (Y : ∀ (w : World) (h : Heap), YP w h → (K w.params).In h)
    (F : ∀ (w : World) (mg : Str → Option Value) (fa : Addr) (h : Heap), YP w h → (K w.params).In h → h.Ns mainGlobals mg → mg d.name = some (.ref fa) → CallerAtT l w (K w.params) k n x mg fa h) :
    PySem.W.WalkO q loose XP YP l.row.toRowW d [] (fun f vs => PySem.call f vs) := by
  refine Att.attach_callB most plain fun w s₀ s₁ mg mb fa o pm cd doc a vs ns G y ho hd hcd hmg obj inz many _ gens => ?_
  have inn := Y w _ y
  obtain ⟨fd, cs, sp, tabs, notK, codes, bind, want, run⟩ := F w mg fa _ y inn G.T.g hmg
  exact caller_runsT inn G.T.g G.T.b G.T.builtins G.T.nolimit gens tabs notK codes G.T.bmain obj inz (Nat.le_trans many small) room run bind fun H hH seq => want H a ns many hH seq
/-- a law's own def whose code object is told -/
theorem atCallerC {P : Program} {w : World} {K : PySem.W.Frag} {mg : Str → Option Value} {base : Heap} {CX : CXT} {k : Nat} {f c : Addr} {fd : FuncData} {N ps : List Str} {sp : Sp} {x qual : Str} {st : Stmt}
    (F : ∃ (oc : Value) (od : Option Addr) (kV doc pm : Value) (an : Option Addr) (ct : Value) (osl : Array (Option Value)), fd = PySem.W.fnOf x qual (defArgs st) (defBody st) (defScope st) .none kV doc pm an (.ref c) ct ∧ K.lookup f = some ⟨oc, od, .func fd, osl⟩ ∧ PySem.W.codeIn K (.ref c) qual = true)
    (S : FnScope N ps (defScope st)) (len : ∀ vs H Q E, sp vs H Q E → vs.length = ps.length)
    (body : ∀ (outer : List Env) (s : Shared) (H : Hp) (vs : List V) (Q : VK) (E : XK), Room k (callerA.deeper (envOfC qual (defScope st) s.heap.objs.size f (.ref c))) → sp vs H Q E →
      ∃ t, PSs (cxOf CX P w K mg base N qual (defScope st) f (.ref c) callerA outer s H E).nox (defBody st) t ∧ t { nx := fun _ H' => Q .non H', rt := Q } (start N vs) H) : AtCaller P w K mg base CX (k + 1) f fd ps sp := by
  obtain ⟨oc, od, kV, doc, pm, an, ct, osl, rfl, lk, hcd⟩ := F
  constructor
  intro outer s H args us vs Q E room env bind rel want
  have count := len _ _ _ _ want
  have inn : K.In s.heap := env.mod.kin.keeps fun b o e => (env.bs b o e).1
  have lim : s.heap.NoLimit := env.mod.nolimit.keeps fun b o e => (env.bs b o e).1
  have kinds : ∀ y ∈ ps.zip us, (defScope st).names.lookup y.1 = some .local ∨ ((defScope st).names.lookup y.1 = some .cell ∧ ((cellsFrom (s.heap.objs.size + 1) (defScope st).names []).lookup y.1).isSome = true) := by
    intro y hy
    rcases S.par y.1 (List.of_mem_zip hy).1 with q | q
    · exact .inl q
    · exact .inr ⟨q, PySem.W.cellsFrom_some _ _ _ (.inl q)⟩
  refine codeAny_call_function room.depth (inn _ _ lk) rfl S.co S.gen rfl (PySem.W.codeRec_of inn hcd) (bind _ _ _ _ ?_)
  refine wpAny_newFunctionEnv_cells S.kind kinds fun en hen s1 entered => ?_
  subst hen
  refine ⟨lim.keeps entered.toInCall.keep, codeAny_func ?_⟩
  obtain ⟨t, der, rd⟩ := body outer s H vs Q E (room.deeper _) want
  have I0 : Inv (cxOf CX P w K mg base N qual (defScope st) f (.ref c) callerA outer s H E) [] (start N vs) H s1 := inv_start S room.hd env count rel entered
  refine wpAny_mono (der.nox.run [] s1 (start N vs) H _ I0 rd) (fun flow s' res => ?_) fun _ _ res => res
  cases flow with
  | ret u =>
    obtain ⟨v, σ', H', J, rv, q⟩ := res
    exact ⟨v, H', J.os, J.bare, J.base, J.hok, rv, q⟩
  | next =>
    obtain ⟨σ', H', J, q⟩ := res
    exact ⟨V.non, H', J.os, J.bare, J.base, J.hok, rfl, q⟩
  | brk =>
    obtain ⟨_, _, _, no⟩ := res
    exact no.elim
  | cont =>
    obtain ⟨_, _, _, no⟩ := res
    exact no.elim
end XK
end
section
set_option Elab.async false
set_option linter.all false
set_option maxRecDepth 100000
set_option maxHeartbeats 4100000
namespace LA
open PySem PySem.Spec PyProof.Rows L2 XS XT XK XL LamX XO DnX B0X RfX SmX CoX
abbrev sLaw : Stmt := top 81
abbrev nLaw : List Str := ["_law_script", "_law_pen_here", "_law_turn", "_law_signs_here", "_law_some", "_law_k", "_law_other"]
theorem scLaw : FnScope nLaw ["_law_script"] (defScope sLaw) := ⟨rfl, rfl, rfl, by decide +kernel, rfl, by decide +kernel, by decide +kernel⟩
def spLaw (K : PySem.W.Frag) (T : List (Addr × Str)) : Sp := fun vs H Q _ => ∃ (a : Addr) (ns : List Int), vs = [.ref a] ∧ SqL K H a (ns.map V.int) ∧ ns.length ≤ 63 ∧ Tabs T H ∧ ∀ H', Q (.bl true) H'
theorem tabs_new {P1 P2 P3 P4 : Addr} {q1 q2 q3 q4 : Str} {H : Hp} (h1 : H P1 = some (.tbl #[])) (h2 : H P2 = some (.tbl #[])) (h3 : H P3 = some (.tbl #[])) (h4 : H P4 = some (.tbl #[])) : Tabs [(P1, q1), (P2, q2), (P3, q3), (P4, q4)] H := fun p hp => by
  have e : p = (P1, q1) ∨ p = (P2, q2) ∨ p = (P3, q3) ∨ p = (P4, q4) := by simpa using hp
  rcases e with rfl | rfl | rfl | rfl
  · exact TabS.nil h1
  · exact TabS.nil h2
  · exact TabS.nil h3
  · exact TabS.nil h4
/-- the six addresses of the law's own list -/
def ad : Nat → A
  | 0 => .any
  | 1 => .last
  | 2 => .changed
  | 3 => .kept none
  | 4 => .number 1
  | _ => .not .any
theorem ad_eq : ∀ i < 6, ∀ j < 6, aeq (ad j) (ad i) = decide (j = i) := by decide +kernel
theorem ad_low : ∀ i, (ad i).low = true
  | 0 => rfl
  | 1 => rfl
  | 2 => rfl
  | 3 => rfl
  | 4 => rfl
  | _ + 5 => rfl
theorem ad_wf : ∀ i, (ad i).wf
  | 0 => trivial
  | 1 => trivial
  | 2 => trivial
  | 3 => trivial
  | 4 => trivial
  | _ + 5 => ⟨trivial, rfl⟩
theorem ad_dep : ∀ i, (ad i).dep ≤ 8
  | 0 => by decide
  | 1 => by decide
  | 2 => by decide
  | 3 => by decide
  | 4 => by decide
  | _ + 5 => by show 1 + 1 ≤ 8; decide
theorem ad_cls : ∀ i, decide (8 ≤ (ad i).cls ∧ (ad i).cls ≤ 16) = true
  | 0 => rfl
  | 1 => rfl
  | 2 => rfl
  | 3 => rfl
  | 4 => rfl
  | _ + 5 => rfl
section
variable {P : Program} {w : World} {K : PySem.W.Frag} {mg : Str → Option Value} {base : Heap} {C fi fe : Nat → Addr} {fdi fde : Nat → FuncData} {CA D : Addr} {p g : Nat → Addr} {fg : Nat → FuncData}
structure CallG (P : Program) (w : World) (K : PySem.W.Frag) (mg : Str → Option Value) (base : Heap) (k : Nat) (x : Str) (ps : List Str) (sp : Sp) (f : Addr) (fd : FuncData) : Prop where
  ok : AtG P w K mg base CX0 k f fd ps sp
  m : mg x = some (.ref f)
  k : PySem.W.keepIn K (.ref f) = true
  b : Binds K fd ps []
theorem ok_law {T : List (Addr × Str)} {f c aPN aFW aNR aTR aDR aRR : Addr} {fd dPN dFW dNR dTR dDR dRR : FuncData} (F : FunC K "law" "law" sLaw f fd c) (W : LwA P w K mg base C CA D fi fdi fe fde p g fg)
    (mR : mg "range" = none) (mM : mg "min" = none) (mL : mg "len" = none)
    (PN : CallOf P w K mg base 1 "_law_pen" ["_law_script"] (spPen K) aPN dPN) (FW : CallOf P w K mg base 3 "_law_few" ["_law_pen_here"] spFew aFW dFW)
    (NR : CallG P w K mg base 14 "_law_numbers_right" ["_law_pen_here"] (spNmR T) aNR dNR) (TR : CallG P w K mg base 20 "_law_tests_right" ["_law_pen_here", "_law_signs_here"] (spTsR T) aTR dTR) (DR : CallG P w K mg base 20 "_law_deep_right" ["_law_pen_here", "_law_signs_here"] (spDpR T) aDR dDR) (RR : CallG P w K mg base 20 "_law_ranges_right" ["_law_pen_here", "_law_signs_here"] (spRgR T) aRR dRR) :
    AtCaller P w K mg base CX0 21 f fd ["_law_script"] (spLaw K T) := by
  refine atCallerC F.ex scLaw (fun vs H Q E h => ?_) (fun outer s H vs Q E hr h => ?_)
  · obtain ⟨a, ns, rfl, _⟩ := h
    rfl
  · obtain ⟨a, ns, rfl, hS, hl, hT, kk⟩ := h
    have hu0 := hr.units0
    have hr15 : Room 15 _ := hr.mono (by decide)
    have hr14 : Room 14 _ := hr.mono (by decide)
    have hr12 : Room 12 _ := hr.mono (by decide)
    have hr11 : Room 11 _ := hr.mono (by decide)
    have hr6 : Room 6 _ := hr.mono (by decide)
    have hr5 : Room 5 _ := hr.mono (by decide)
    have hr3 : Room 3 _ := hr.mono (by decide)
    have hr1 : Room 1 _ := hr.mono (by decide)
    obtain ⟨ds0, vds0, bds0⟩ := W.M.kept0
    refine ⟨_, pss_cons (by exact (ps_set (i := 1) scLaw.nd rfl (Or.inl rfl) (pe_call PN.ok hr1 rfl PN.m PN.k PN.b .nil pass0 (pa_cons (pv 0) pa_nil))))
      (pss_cons (by exact (ps_for PassesOwn.never rfl (pi_range1 rfl mR (pa_cons (pe_op op_add pe_int (pe_callB (call_min2 rfl) (by rfl) mM (by decide +kernel) (pa_cons pe_int (pa_cons (pe_callB call_len_seq (by rfl) mL PySem.boot_len (pa_cons (pv 0) pa_nil)) pa_nil)))) pa_nil)) (by exact (pg_name (i := 2) scLaw.nd rfl (Or.inl rfl)))
        (pss_cons (by exact (ps_set (i := 3) scLaw.nd rfl (Or.inl rfl) (pe_call FW.ok hr3 rfl FW.m FW.k FW.b .nil pass0 (pa_cons (pv 1) pa_nil))))
        (pss_cons (by exact (ps_if (PW.pt (pw_or (pt_not (pt_val (pe_callG NR.ok (by rfl) hr14 (by rfl) NR.m NR.k NR.b pass0 (pa_cons (pv 1) pa_nil)))) (pw_or (pt_not (pt_val (pe_callG TR.ok (by rfl) hr (by rfl) TR.m TR.k TR.b pass0 (pa_cons (pv 1) (pa_cons (pv 3) pa_nil))))) (pw_or1 (pt_not (pt_val (pe_callG DR.ok (by rfl) hr (by rfl) DR.m DR.k DR.b pass0 (pa_cons (pv 1) (pa_cons (pv 3) pa_nil))))))))) (pss_one (by exact (ps_ret pe_bl))) pss_nil))
        (pss_one (by exact (ps_if (pt_not (pt_val (pe_callG RR.ok (by rfl) hr (by rfl) RR.m RR.k RR.b pass0 (pa_cons (pv 1) (pa_cons (pv 3) pa_nil))))) (pss_one (by exact (ps_ret pe_bl))) pss_nil)))))))
      (pss_cons (by exact (ps_set (i := 4) scLaw.nd rfl (Or.inr rfl) (pe_lst (pa_cons (pe_bare W.M.any rfl W.N.any) (pa_cons (pe_bare W.M.last rfl W.N.last) (pa_cons (pe_bare W.M.changed rfl W.N.changed) (pa_cons (pe_make0 W.M.kept.made W.M.kept.ok hr5 rfl W.N.kept bds0 vds0 passN) (pa_cons (pe_make W.M.number.made W.M.number.ok hr6 rfl W.N.number W.M.number.b .nil passN (pa_cons pe_int pa_nil)) (pa_cons (pe_make W.M.not.made W.M.not.ok hr15 rfl W.N.not W.M.not.b .nil passN (pa_cons (pe_bare W.M.any rfl W.N.any) pa_nil)) pa_nil)))))))))
      (pss_cons (by exact (ps_for PassesOwn.never rfl (pi_range1 rfl mR (pa_cons (pe_callB call_len_seq (by rfl) mL PySem.boot_len (pa_cons (pv 4) pa_nil)) pa_nil)) (by exact (pg_name (i := 5) scLaw.nd rfl (Or.inr rfl)))
        (pss_cons (by exact (ps_if (PW.pt (pw_or (pt_not (pt_val (pe_callB call_isi (by rfl) W.N.isM (by decide +kernel) (pa_cons (pe_ix ix_list (pv 4) (pv 5) (fun _ _ => rfl)) (pa_cons (pe_glob (v := .ref CA) rfl W.N.adr rfl) pa_nil))))) (pw_or1 (pt_cmpR (op_sameNe hu0) (pe_lc (own := [("_law_other", 6)]) (g := gName 6) (tt := tTest (tOp (rEqA C 8 false) (tVar 6) (tOp (rIxL K) (tVar 4) (tVar 5)))) (te := tVar 6) rfl scLaw.nd (pi_list (pv 4))
            (blkOk_by (N := nLaw) (sc := defScope sLaw) (by decide +kernel)) (fun _ _ _ _ _ => by exact (pg_name (i := 6) scLaw.nd rfl (Or.inl rfl))) (fun _ _ _ _ _ => by exact (pts_one (pt_cmpR (op_a W.k W.E hr11) (pv 6) (pe_ix ix_list (pv 4) (pv 5) (fun _ _ => rfl)) (nomark _))))
            (fun _ _ _ _ _ => by exact (pv 6))) (pe_lst (pa_cons (pe_ix ix_list (pv 4) (pv 5) (fun _ _ => rfl)) pa_nil)) (nomark _))))) (pss_one (by exact (ps_ret pe_bl))) pss_nil))
        (pss_one (by exact (ps_if (pt_cmpR (op_notIn (R := rRefA K C 8) (fun E => by exact (op_refA W.O W.E (Room.in1 hr12)))) (pe_ix ix_list (pv 4) (pv 5) (fun _ _ => rfl)) (pe_tup (pa_cons pe_non (pa_cons pe_int (pa_cons pe_str (pa_cons (pe_tup pa_nil) pa_nil))))) (by rfl)) (pss_one (by exact (ps_ret pe_bl))) pss_nil))))))
      (pss_one (by exact (ps_ret pe_bl)))))), ?_⟩
    refine ⟨_, rfl, a, ns, rfl, hS, hl, fun d c0 ms H1 pen1 sm1 nd nc => ?_⟩
    have hS1 := sm1.seq hS
    have T1 := Tabs.same hT sm1
    refine ⟨_, rfl, a, _, rfl, .inl hS1, _, _, rfl, _, _, rfl, rfl, _, rfl, ?_, ?_, for_range (lo := 0) (n := ((8 : Int) + (if (((ns.map V.int).length : Nat) : Int) < 8 then (((ns.map V.int).length : Nat) : Int) else 8)).toNat) (fun i σ X => (∃ x2 x3 x4 x5 x6 : Option V, σ = [some (.ref a), some (.ref d), x2, x3, x4, x5, x6]) ∧ PenAt X d c0 (1000 * i) ms ∧ Tabs T X) ⟨⟨_, _, _, _, _, rfl⟩, pen1.le (by omega), T1⟩ (fun i σ X hi pw => ?_) (fun σ X pw => ?_)⟩
    · split <;> omega
    · split <;> omega
    · obtain ⟨⟨x2, x3, x4, x5, x6, rfl⟩, pX, TX⟩ := pw
      have hi2 : i < 16 := by
        have h : ((8 : Int) + (if (((ns.map V.int).length : Nat) : Int) < 8 then (((ns.map V.int).length : Nat) : Int) else 8)) ≤ 16 := by split <;> omega
        omega
      obtain ⟨kvX, hdX⟩ := pX.dict
      refine ⟨_, rfl, d, c0, 1000 * i, ms, rfl, pX, by omega, fun z H2 sz p2 b2 => ?_⟩
      have T2 := Tabs.but TX b2 hdX
      refine ⟨_, rfl, d, c0, _, ms, rfl, p2, by omega, T2, fun H3 p3 T3 => ⟨_, rfl, iteF ?_⟩⟩
      refine ⟨_, rfl, _, rfl, d, c0, _, ms, z, rfl, p3, by omega, sz, T3, fun H4 p4 T4 => ⟨_, rfl, iteF ?_⟩⟩
      refine ⟨_, rfl, _, rfl, d, c0, _, ms, z, rfl, p4, by omega, sz, T4, fun H5 p5 T5 => ⟨_, rfl, iteF ?_⟩⟩
      refine ⟨_, rfl, _, rfl, d, c0, _, ms, z, rfl, p5, by omega, sz, T5, fun H6 p6 T6 => ⟨_, rfl, iteF ?_⟩⟩
      exact ⟨⟨_, _, _, _, _, rfl⟩, p6.le (by omega), T6⟩
    · obtain ⟨⟨x2, x3, x4, x5, x6, rfl⟩, pX, TX⟩ := pw
      refine fun q0 e0 n0 m0 _ => ?_
      refine fun q1 e1 n1 m1 _ => ?_
      refine fun q2 e2 n2 m2 _ => ?_
      refine fun q3 e3 n3 m3 _ => ⟨q3, e3, .non, true, rfl, upd_same, .inl ⟨rfl, rfl⟩, fun _ H3 h3 b3 => ⟨rfl, ?_⟩, fun no => by cases no⟩
      refine fun q4 e4 n4 m4 _ => ⟨q4, e4, (fun _ => True), _, .int 1, rfl, upd_same, .int 1, fun _ H4 h4 b4 => ⟨rfl, ?_⟩, fun no => by cases no⟩
      refine fun q6 e6 n6 m6 _ => ?_
      refine fun q5 e5 n5 m5 _ => ⟨q5, e5, .ref q6, some .any, rfl, upd_same, .inr ⟨.any, ⟨q6, e6, rfl, made_start n5 m5 _ _ upd_same⟩, rfl⟩, okIn_any, (fun _ H5 h5 b5 => ⟨rfl, (by show 6 ≤ sizeLine; decide), fun L nL => ?_⟩), fun no => by cases no⟩
      have s4 := made_same n4 m4 b4
      have s6 := made_start (D := C 8) n6 m6
      have s5 := made_same n5 m5 b5
      have sL := same_upd (o := .lst [.ref q0, .ref q1, .ref q2, .ref q3, .ref q4, .ref q5]) nL
      have s456 := s4.trans (s6.trans (s5.trans sL))
      have s3 := made_same n3 m3 b3
      have h0 := s456 _ _ (s3 _ _ (made_start (D := C 13) n2 m2 _ _ (made_start (D := C 11) n1 m1 _ _ (upd_same (o := .ins (C 8) e0 [])))))
      have h1 := s456 _ _ (s3 _ _ (made_start (D := C 13) n2 m2 _ _ (upd_same (o := .ins (C 11) e1 []))))
      have h2 := s456 _ _ (s3 _ _ (upd_same (o := .ins (C 13) e2 [])))
      have h3' := s456 _ _ h3
      have h4' := (s6.trans (s5.trans sL)) _ _ h4
      have h5' := sL _ _ h5
      have h6' := (s5.trans sL) _ _ (upd_same (o := .ins (C 8) e6 []))
      have hL : (upd H5 L (.lst [.ref q0, .ref q1, .ref q2, .ref q3, .ref q4, .ref q5])) L = some (.lst [.ref q0, .ref q1, .ref q2, .ref q3, .ref q4, .ref q5]) := upd_same
      clear s456 s5 s6 s4 s3 sL h3 h4 h5
      generalize upd H5 L (.lst [.ref q0, .ref q1, .ref q2, .ref q3, .ref q4, .ref q5]) = H6 at h0 h1 h2 h3' h4' h5' h6' hL ⊢
      clear nL b5 n5 m5 b4 n4 m4 b3 n3 m3 n6 m6
      have key : ∀ j, j < 6 → ∃ q, ([.ref q0, .ref q1, .ref q2, .ref q3, .ref q4, .ref q5] : List V)[j]? = some (.ref q) ∧ AA C H6 (ad j) (.ref q) := fun j hj => by
        rcases (by omega : j = 0 ∨ j = 1 ∨ j = 2 ∨ j = 3 ∨ j = 4 ∨ j = 5) with rfl | rfl | rfl | rfl | rfl | rfl
        · exact ⟨q0, rfl, q0, e0, rfl, h0⟩
        · exact ⟨q1, rfl, q1, e1, rfl, h1⟩
        · exact ⟨q2, rfl, q2, e2, rfl, h2⟩
        · exact ⟨q3, rfl, q3, e3, rfl, h3'⟩
        · exact ⟨q4, rfl, q4, e4, rfl, h4'⟩
        · exact ⟨q5, rfl, q5, e5, .ref q6, rfl, h5', q6, e6, rfl, h6'⟩
      refine ⟨_, rfl, L, _, rfl, .inl (SqL.of hL), 6, rfl, by decide, by decide, for_range (lo := 0) (n := 6) (fun i σ Y => (∃ x2 x3 x5 x6 : Option V, σ = [some (.ref a), some (.ref d), x2, x3, some (.ref L), x5, x6]) ∧ Same H6 Y) ⟨⟨_, _, _, _, rfl⟩, fun _ _ z => z⟩ (fun i σ Y hi pw => ?_) (fun σ Y pw => ?_)⟩
      · obtain ⟨⟨x2, x3, x5, x6, rfl⟩, sY⟩ := pw
        obtain ⟨qi, vi, ai⟩ := key i hi
        have hLY := sY _ _ hL
        have aY := ai.same sY
        have at_ : ∀ v, v = Int.ofNat i → atI ([.ref q0, .ref q1, .ref q2, .ref q3, .ref q4, .ref q5] : List V) v = some (.ref qi) := fun v e => by rw [e]; exact atI_nat vi
        have ei : (0 : Int) + (i : Int) = Int.ofNat i := Int.zero_add _
        refine ⟨_, rfl, _, rfl, L, _, _, _, rfl, rfl, SqL.of hLY, at_ _ ei, ?_⟩
        refine ⟨_, _, _, _, _, rfl, .own CA, aY.ty W.k, W.k.adr _ aY.at_.1.2, _, rfl, ?_⟩
        rw [ad_cls i]
        refine iteF ?_
        refine ⟨_, rfl, L, rfl, ⟨_, SqL.of hLY⟩, fun DD nD => ?_⟩
        refine lc_it (walk_list (xs := [.ref q0, .ref q1, .ref q2, .ref q3, .ref q4, .ref q5])) (fun j Z => Z DD = some (.lst (if j ≤ i then [] else [.ref qi])) ∧ Same Y Z) ⟨(by rw [if_pos (Nat.zero_le i)]; exact upd_same), same_upd nD⟩ (fun j Z _ p2 => SqL.of (p2.2 _ _ hLY)) (fun j x Z Z' hj p2 yl => ?_) (fun Z p2 => ?_)
        · obtain ⟨pD, pS⟩ := p2
          obtain ⟨rfl, hx⟩ := yl
          obtain ⟨qj, vj, aj⟩ := key j hj
          obtain rfl : x = .ref qj := Option.some.inj (hx.symm.trans vj)
          have j6 : j < 6 := hj
          refine ⟨rfl, ?_⟩
          refine ⟨_, rfl, _, rfl, _, rfl, L, _, _, _, rfl, rfl, SqL.of (pS _ _ hLY), at_ _ ei, ?_⟩
          refine ⟨ad j, _, (aj.same sY).same pS, ad_low j, ad_wf j, ad_dep j, .inr ⟨ad i, aY.same pS, ad_low i, rfl⟩, fun Z2 s2 => ⟨_, rfl, ?_⟩⟩
          rw [ad_eq i hi j j6]
          by_cases e : j = i
          · rw [decide_eq_true e]
            refine iteT ?_
            refine ⟨_, rfl, _, s2 _ _ pD, ?_, ?_, ?_⟩
            · rw [if_pos (Nat.le_of_eq e)]
              decide
            · subst e
              rw [upd_same, if_pos (Nat.le_refl _), if_neg (by omega)]
              rw [show qi = qj by injection Option.some.inj (vi.symm.trans vj)]
              rfl
            · intro b o eb
              rw [upd_ne (ne_of_none eb nD)]
              exact s2 _ _ (pS _ _ eb)
          · rw [decide_eq_false e]
            refine iteF ⟨?_, pS.trans s2⟩
            rw [s2 _ _ pD]
            by_cases l : j ≤ i
            · rw [if_pos l, if_pos (by omega)]
            · rw [if_neg l, if_neg (by omega)]
        · obtain ⟨pD, pS⟩ := p2
          have pD : Z DD = some (.lst (if 6 ≤ i then [] else [.ref qi])) := pD
          rw [if_neg (show ¬ 6 ≤ i by omega)] at pD
          refine ⟨_, rfl, _, rfl, L, _, _, _, rfl, rfl, SqL.of (pS _ _ hLY), at_ _ ei, (by show 1 ≤ sizeLine; decide), fun t nt => ?_⟩
          have st := same_upd (o := .lst [.ref qi]) nt
          refine ⟨DD, t, [.ref qi], rfl, rfl, (fun x hx => ⟨qi, by simpa using hx⟩), .inr ⟨st _ _ pD, upd_same⟩, _, rfl, iteF ?_⟩
          have sZ := pS.trans st
          have aZ := aY.same sZ
          refine ⟨_, rfl, _, rfl, L, _, _, _, rfl, rfl, SqL.of (sZ _ _ hLY), at_ _ ei, ?_⟩
          refine ⟨(by show 0 ≤ sizeLine; decide), fun t0 nt0 => ⟨(by show 4 ≤ sizeLine; decide), fun t1 nt1 => ?_⟩⟩
          have s0 := same_upd (o := .tup []) nt0
          have s1 := same_upd (o := .tup [.non, .int 1, .str "any", .ref t0]) nt1
          have ht0 := s1 _ _ (upd_same (H := upd (Z) t (.lst [.ref qi])) (a := t0) (o := .tup []))
          obtain ⟨_, pq, dq, fq, eq, hq⟩ := aZ.at_
          cases eq
          refine ⟨qi, t1, _, rfl, rfl, upd_same, fun y hy => ?_, fun y hy H8 s8 => ?_, fun H8 s8 => ⟨_, rfl, iteF ⟨⟨_, _, _, _, rfl⟩, ?_⟩⟩⟩
          · simp only [List.mem_cons, List.not_mem_nil, or_false] at hy
            rcases hy with rfl | rfl | rfl | rfl
            · intro z; cases z
            · intro z; cases z
            · intro z; cases z
            · intro z
              injection z with z
              exact ne_of_none hq nt0 z.symm
          · have av : AnyV H8 y := by
              simp only [List.mem_cons, List.not_mem_nil, or_false] at hy
              rcases hy with rfl | rfl | rfl | rfl
              · exact .non
              · exact .int 1
              · exact .str _ (by decide +kernel)
              · exact .tup (s8 _ _ ht0)
            obtain ⟨ty, hty, nby⟩ := av.tyb (K := K)
            exact ⟨ad i, ty, ((aZ.same s0).same s1).same s8, ad_low i, ad_wf i, ad_dep i, hty, nby, av, fun H9 s9 => ⟨rfl, s9⟩⟩
          · exact sY.trans (sZ.trans (s0.trans (s1.trans s8)))
      · exact kk _
end
end LA
end
section
set_option Elab.async false
set_option linter.all false
set_option maxRecDepth 100000
set_option maxHeartbeats 4100000
namespace XJ
open PySem PySem.W PyProof.Rows L2 XK
/-- the mro of a class that stands right upon ValueError -/
def mroOver (K : Frag) (C : Addr) : Bool := match clsIn K C with
  | some cd => cd.mro == [.ref C, .type "ValueError", .type "Exception", .type "BaseException", .type "object"] && cd.hasDict
  | none => false
theorem over_cls {K : Frag} {C : Addr} (h : mroOver K C = true) : ∃ cd, clsIn K C = some cd ∧ cd.mro = [.ref C, .type "ValueError", .type "Exception", .type "BaseException", .type "object"] ∧ cd.hasDict = true := by
  unfold mroOver at h
  split at h
  · rename_i cd e
    rw [Bool.and_eq_true] at h
    exact ⟨cd, e, eq_of_beq h.1, h.2⟩
  · cases h
/-- what the written part says of an own ValueError class -/
structure ErrF (K : Frag) (x : Str) (C : Addr) : Prop where
  ns : nsIn K mainGlobals x = some (some (.ref C))
  bare : mroOver K C = true
  ini : excInitIn K C [.type "ValueError", .type "Exception", .type "BaseException", .type "object"] "ValueError.__new__" = true
  sa : findIn K (.ref C) "__setattr__" = some (some (.builtin "object.__setattr__"))
  ga : findIn K (.ref C) "__getattribute__" = some (some (.builtin "BaseException.__getattribute__"))
  gg : findIn K (.ref C) "__getattr__" = some none
  exC : subIn K (.ref C) (.type "BaseException") = some true
  kC : keepIn K (.ref C) = true
  hd : hasDictIn K C = true
  ac : findIn K (.ref C) "__class__" = some (some (.builtin "object.__class__"))
  gn : specialIn K (.builtin "object.__class__") "__get__" = some (some (.builtin "getset_descriptor.__get__"))
  tk : takesIn K (.builtin "object.__class__") = some true
  mo : mroIn K C (.type "object") = some true
  ty : typeIn K (.ref C) = some (.type "type")
  xc : ∃ nm q N bs bm sn sub ab col dd k0 k1 k2 k3 k5, K.lookup C = some (excClassObj nm q C N bs bm true sn sub ab col dd k0 k1 k2 k3 k5 "ValueError.__new__") ∧ PySem.HandSPX.refsVE bm = true
theorem xc_mk {K : Frag} {C : Addr} {nm q N bs bm sn sub ab col dd k0 k1 k2 k3 k5} (a : K.lookup C = some (excClassObj nm q C N bs bm true sn sub ab col dd k0 k1 k2 k3 k5 "ValueError.__new__")) (b : PySem.HandSPX.refsVE bm = true) :
    ∃ nm q N bs bm sn sub ab col dd k0 k1 k2 k3 k5, K.lookup C = some (excClassObj nm q C N bs bm true sn sub ab col dd k0 k1 k2 k3 k5 "ValueError.__new__") ∧ PySem.HandSPX.refsVE bm = true := ⟨_, _, _, _, _, _, _, _, _, _, _, _, _, _, _, a, b⟩
theorem ErrF.xt {K : Frag} {x : Str} {C : Addr} (F : ErrF K x C) : XT K C := by
  have S := PySem.F.store_ValueError
  obtain ⟨cd, hc, hm, hd⟩ := over_cls F.bare
  refine ⟨⟨"ValueError", _, _, _, PySem.F.excBase_ValueError, F.ini⟩, ⟨cd, hc, ?_, ?_, fun self => ?_, hd⟩, F.sa, F.ga, F.gg, F.exC, F.kC, F.hd, F.ac, F.gn, F.tk, F.mo⟩
  · rw [hm]
    rfl
  · rw [hm, List.contains_cons, S.hasOwner, Bool.or_true]
  · rw [hm, refuseLoop_ref]
    exact S.passes self
theorem ErrF.oex {K : Frag} {x : Str} {C : Addr} (F : ErrF K x C) : OexC K C := ⟨F.xc, F.sa, F.exC, F.ty, F.kC⟩
/-! ### two defs whose code objects have tables of their own -/
/-- the tables of the code objects at c and at d are unlike, and neither is written down -/
def tabsApart (K : Frag) (c d : Addr) : Bool := match K.lookup c, K.lookup d with
  | some ⟨_, _, .fields vs, _⟩, some ⟨_, _, .fields us, _⟩ => match (vs[11]? : Option Value), (us[11]? : Option Value) with
    | some (Value.ref p), some (Value.ref r) => p != r && (K.lookup p).isNone && (K.lookup r).isNone
    | _, _ => false
  | _, _ => false
theorem apart {K : Frag} {c d : Addr} (h : tabsApart K c d = true) : ∃ e1 d1 vs s1 e2 d2 us s2 p r, K.lookup c = some ⟨e1, d1, .fields vs, s1⟩ ∧ K.lookup d = some ⟨e2, d2, .fields us, s2⟩ ∧ vs[11]? = some (.ref p) ∧ us[11]? = some (.ref r) ∧ p ≠ r ∧ K.lookup p = none ∧ K.lookup r = none := by
  unfold tabsApart at h
  split at h
  · rename_i e1 d1 vs s1 e2 d2 us s2 h1 h2
    split at h
    · rename_i p r h3 h4
      rw [Bool.and_eq_true, Bool.and_eq_true] at h
      obtain ⟨⟨a, b⟩, e⟩ := h
      exact ⟨_, _, _, _, _, _, _, _, _, _, h1, h2, h3, h4, by simpa using a, by simpa using b, by simpa using e⟩
    · cases h
  · cases h
/-- as the head tells it of each def -/
def TabAt (h : Heap) (mg : Str → Option Value) (x : Str) : Prop := ∃ a o fd c P, mg x = some (.ref a) ∧ h.get? a = some o ∧ o.data = .func fd ∧ fd.code = .ref c ∧ h.IsCode c P #[] ∧ h.TableAt c P #[]
theorem tab_one {K : Frag} {h : Heap} {mg : Str → Option Value} {x : Str} {f c p : Addr} {oc : Value} {od : Option Addr} {fd : FuncData} {osl : Array (Option Value)} {e1 : Value} {d1 : Option Addr} {vs : Array Value} {s1 : Array (Option Value)} (X : K.In h) (T : TabAt h mg x) (m : mg x = some (.ref f)) (l : K.lookup f = some ⟨oc, od, .func fd, osl⟩) (hc : fd.code = .ref c)
    (k : K.lookup c = some ⟨e1, d1, .fields vs, s1⟩) (v : vs[11]? = some (.ref p)) : h.get? p = some { cls := .none, data := .fields #[] } ∧ CodeHd h c p := by
  obtain ⟨a, o, fd', c', P, h1, h2, h3, h4, h5, h6⟩ := T
  rw [m] at h1
  cases h1
  have g1 := X _ _ l
  rw [g1] at h2
  cases h2
  cases h3
  rw [hc] at h4
  cases h4
  have hd := CodeHd.of h5 h6
  obtain ⟨⟨o2, v2, e1', _, e3, e4⟩, hP⟩ := h6
  have g2 := X _ _ k
  rw [g2] at e1'
  cases e1'
  cases e3
  rw [v] at e4
  cases e4
  exact ⟨hP, hd⟩
theorem caller_walkU {l : PySem.W.OpenLaw} {n k : Nat} {q : Program} {loose : List Str} {XP : (Str → Option Value) → Heap → Prop} {YP : World → Heap → Prop} {d : DefRec} {K : Params → PySem.W.Frag} {x : Str}
    (most : l.most = some n) (small : n ≤ sizeLine) (plain : d.params.defaults = []) (room : Room k callerA) (Y : ∀ (w : World) (h : Heap), YP w h → (K w.params).In h)
    (F : ∀ (w : World) (mg : Str → Option Value) (fa : Addr) (h : Heap), YP w h → (K w.params).In h → h.Ns mainGlobals mg → mg d.name = some (.ref fa) → (∀ y ∈ (recsOf q).map (·.name), TabAt h mg y) → CallerAtT l w (K w.params) k n x mg fa h) :
    PySem.W.WalkO q loose XP YP l.row.toRowW d [] (fun f vs => PySem.call f vs) := by
  refine Att.attach_callB most plain fun w s₀ s₁ mg mb fa o pm cd doc a vs ns G y ho hd hcd hmg obj inz many _ gens => ?_
  have inn := Y w _ y
  obtain ⟨fd, cs, sp, tabs, notK, codes, bind, want, run⟩ := F w mg fa _ y inn G.T.g hmg (fun z hz => by
    obtain ⟨e, he, rfl⟩ := List.mem_map.mp hz
    exact G.T.tab e he)
  exact caller_runsT inn G.T.g G.T.b G.T.builtins G.T.nolimit gens tabs notK codes G.T.bmain obj inz (Nat.le_trans many small) room run bind fun H hH seq => want H a ns many hH seq
end XJ
end
section
set_option Elab.async false
set_option linter.all false
set_option maxRecDepth 100000
set_option maxHeartbeats 8000000
namespace XJ
open PySem PySem.W L2 XK
/-- a def at an address, as the row tells it -/
structure FnF (K : Frag) (x qual : Str) (st : Stmt) (f : Addr) : Prop where
  ex : ∃ (oc : Value) (od : Option Addr) (kV doc pm : Value) (an : Option Addr) (cdv ct : Value) (osl : Array (Option Value)), K.lookup f = some ⟨oc, od, .func (fnOf x qual (defArgs st) (defBody st) (defScope st) .none kV doc pm an cdv ct), osl⟩ ∧ codeIn K cdv qual = true
theorem fnF_mk {K : Frag} {x qual : Str} {st : Stmt} {f : Addr} {oc : Value} {od : Option Addr} {kV doc pm : Value} {an : Option Addr} {cdv ct : Value} {osl : Array (Option Value)} (l : K.lookup f = some ⟨oc, od, .func (fnOf x qual (defArgs st) (defBody st) (defScope st) .none kV doc pm an cdv ct), osl⟩) (c : codeIn K cdv qual = true) : FnF K x qual st f :=
  ⟨⟨oc, od, kV, doc, pm, an, cdv, ct, osl, l, c⟩⟩
theorem FnF.get {K : Frag} {x qual : Str} {st : Stmt} {f : Addr} (F : FnF K x qual st f) (k : keepIn K (.ref f) = true) : ∃ fd, Fun K x qual st f fd := by
  obtain ⟨oc, od, kV, doc, pm, an, cdv, ct, osl, l, c⟩ := F.ex
  exact ⟨_, fun_mk l c k⟩
/-- the same, its code object told -/
structure FnFC (K : Frag) (x qual : Str) (st : Stmt) (f c : Addr) : Prop where
  ex : ∃ (oc : Value) (od : Option Addr) (kV doc pm : Value) (an : Option Addr) (ct : Value) (osl : Array (Option Value)), K.lookup f = some ⟨oc, od, .func (fnOf x qual (defArgs st) (defBody st) (defScope st) .none kV doc pm an (.ref c) ct), osl⟩ ∧ codeIn K (.ref c) qual = true
theorem fnFC_mk {K : Frag} {x qual : Str} {st : Stmt} {f c : Addr} {oc : Value} {od : Option Addr} {kV doc pm : Value} {an : Option Addr} {ct : Value} {osl : Array (Option Value)} (l : K.lookup f = some ⟨oc, od, .func (fnOf x qual (defArgs st) (defBody st) (defScope st) .none kV doc pm an (.ref c) ct), osl⟩) (d : codeIn K (.ref c) qual = true) : FnFC K x qual st f c :=
  ⟨⟨oc, od, kV, doc, pm, an, ct, osl, l, d⟩⟩
theorem propF_mk {K : Frag} {C p g : Addr} {nm : Str} {rest : List Value} (a : findIn K (.ref C) nm = some (some (.ref p))) (b : specialIn K (.ref p) "__get__" = some (some (.builtin "property.__get__"))) (c : takesIn K (.ref p) = some true) (d : recIn K p "property" = some (.ref g :: rest)) : PropOf K C nm p g := ⟨a, b, c, ⟨rest, d⟩⟩
/-- one parameter by keyword -/
theorem kb_one {K : Frag} {x qual : Str} {st : Stmt} {f : Addr} {fd : FuncData} {pn : Str} (F : Fun K x qual st f fd)
    (h : ∀ (kV doc pm : Value) (an : Option Addr) (cdv ct u v : Value), bindArgs (fnOf x qual (defArgs st) (defBody st) (defScope st) .none kV doc pm an cdv ct) ⟨[u], [(pn, v)]⟩ = pure ([(("self" : Str), u), (pn, v)] : List (Str × Value))) : KBn K fd ["self", pn] 1 [pn] (fun us ws => us ++ ws) (fun us ws => us ++ ws) := by
  obtain ⟨oc, od, kV, doc, pm, an, cdv, ct, osl, rfl, l, c⟩ := F.ex
  exact ⟨fun s us ws X l1 l2 => match us, ws, l1, l2 with | [u], [v], _, _ => .of_eq (h kV doc pm an cdv ct u v), fun r1 r2 => r1.append r2⟩
/-- two, turned round -/
theorem kb_two {K : Frag} {x qual : Str} {st : Stmt} {f : Addr} {fd : FuncData} {p1 p2 : Str} (F : Fun K x qual st f fd)
    (h : ∀ (kV doc pm : Value) (an : Option Addr) (cdv ct u v z : Value), bindArgs (fnOf x qual (defArgs st) (defBody st) (defScope st) .none kV doc pm an cdv ct) ⟨[u], [(p2, v), (p1, z)]⟩ = pure ([(("self" : Str), u), (p1, z), (p2, v)] : List (Str × Value))) : KBn K fd ["self", p1, p2] 1 [p2, p1] (fun us ws => us ++ ws.reverse) (fun us ws => us ++ ws.reverse) := by
  obtain ⟨oc, od, kV, doc, pm, an, cdv, ct, osl, rfl, l, c⟩ := F.ex
  exact ⟨fun s us ws X l1 l2 => match us, ws, l1, l2 with | [u], [v, z], _, _ => .of_eq (h kV doc pm an cdv ct u v z), fun r1 r2 => r1.append r2.reverse⟩
end XJ
namespace LA
open PySem PySem.W L2 XS XT XK XO XL LamX DnX B0X RfX
/-- the tables of four code objects are unlike, and none is written down -/
def tabs4 (K : Frag) (c d e f : Addr) : Bool := XJ.tabsApart K c d && (XJ.tabsApart K c e && (XJ.tabsApart K c f && (XJ.tabsApart K d e && (XJ.tabsApart K d f && XJ.tabsApart K e f))))
structure Tab (K : Frag) (c p : Addr) : Prop where
  ex : ∃ (e1 : Value) (d1 : Option Addr) (vs : Array Value) (s1 : Array (Option Value)), K.lookup c = some ⟨e1, d1, .fields vs, s1⟩ ∧ vs[11]? = some (.ref p)
  no : K.lookup p = none
theorem Tab.one {K : Frag} {c p q : Addr} (a : Tab K c p) (b : Tab K c q) : p = q := by
  obtain ⟨e1, d1, vs, s1, h1, h2⟩ := a.ex
  obtain ⟨e2, d2, us, s2, h3, h4⟩ := b.ex
  rw [h1] at h3
  cases h3
  rw [h2] at h4
  cases h4
  rfl
theorem apart_ {K : Frag} {c d : Addr} (h : XJ.tabsApart K c d = true) : ∃ p q, Tab K c p ∧ Tab K d q ∧ p ≠ q := by
  obtain ⟨e1, d1, vs, s1, e2, d2, us, s2, p, r, a1, a2, a3, a4, a5, a6, a7⟩ := XJ.apart h
  exact ⟨p, r, ⟨⟨_, _, _, _, a1, a3⟩, a6⟩, ⟨⟨_, _, _, _, a2, a4⟩, a7⟩, a5⟩
theorem apart4 {K : Frag} {c d e f : Addr} (h : tabs4 K c d e f = true) : ∃ p q r s, Tab K c p ∧ Tab K d q ∧ Tab K e r ∧ Tab K f s ∧ p ≠ q ∧ p ≠ r ∧ p ≠ s ∧ q ≠ r ∧ q ≠ s ∧ r ≠ s := by
  unfold tabs4 at h
  simp only [Bool.and_eq_true] at h
  obtain ⟨h1, h2, h3, h4, h5, h6⟩ := h
  obtain ⟨p, q, tc, td, n1⟩ := apart_ h1
  obtain ⟨p2, r, tc2, te, n2⟩ := apart_ h2
  obtain ⟨p3, s, tc3, tf, n3⟩ := apart_ h3
  obtain ⟨q4, r4, td4, te4, n4⟩ := apart_ h4
  obtain ⟨q5, s5, td5, tf5, n5⟩ := apart_ h5
  obtain ⟨r6, s6, te6, tf6, n6⟩ := apart_ h6
  cases tc.one tc2
  cases tc.one tc3
  cases td.one td4
  cases te.one te4
  cases td.one td5
  cases tf.one tf5
  cases te.one te6
  cases tf.one tf6
  exact ⟨p, q, r, s, tc, td, te, tf, n1, n2, n3, n4, n5, n6⟩
structure FnFD (K : Frag) (f : Addr) : Prop where
  ex : ∃ fd, FunD K "__init__" "Kept.__init__" (defArgs sIKept) (defBody sIKept) (defScope sIKept) [.non] [] f fd
theorem funD_mk {K : Frag} {f T : Addr} {oc : Value} {od : Option Addr} {kV doc pm : Value} {an : Option Addr} {cdv ct : Value} {osl : Array (Option Value)} {ot : Obj} {n : Nat}
    (l : K.lookup f = some ⟨oc, od, .func (fnOf "__init__" "Kept.__init__" (defArgs sIKept) (defBody sIKept) (defScope sIKept) (.ref T) kV doc pm an cdv ct), osl⟩) (c : codeIn K cdv "Kept.__init__" = true) (t : K.lookup T = some ot) (d : ot.data = .seq #[.none] n) (k : keepIn K (.ref f) = true) : FnFD K f :=
  ⟨⟨_, ⟨⟨oc, od, .ref T, kV, doc, pm, an, cdv, ct, osl, rfl, l, c, .inr ⟨by decide, T, ot, [.none], n, rfl, t, d, .cons rfl .nil⟩, .inl rfl⟩, k⟩⟩⟩
theorem kept_b2 {K : Frag} {f : Addr} {fd : FuncData} (F : FunD K "__init__" "Kept.__init__" (defArgs sIKept) (defBody sIKept) (defScope sIKept) [.non] [] f fd) : Binds K fd ["self", "test"] [] := by
  obtain ⟨ds, v, b⟩ := F.binds1 (ps := ["self", "test"]) 2 1 (by decide) rfl fun T kV doc pm an cdv ct us its l1 l2 => match us, its, l1, l2 with | [a, b], [d], _, _ => ⟨_, rfl, rfl⟩
  cases v
  exact b
theorem kept_b1 {K : Frag} {f : Addr} {fd : FuncData} (F : FunD K "__init__" "Kept.__init__" (defArgs sIKept) (defBody sIKept) (defScope sIKept) [.non] [] f fd) : ∃ ds, Vals [V.non] ds ∧ Binds K fd ["self", "test"] ds :=
  F.binds1 (ps := ["self", "test"]) 1 0 (by decide) rfl fun T kV doc pm an cdv ct us its l1 l2 => match us, its, l1, l2 with | [a], [d], _, _ => ⟨_, rfl, rfl⟩
theorem kept_kb {K : Frag} {f : Addr} {fd : FuncData} (F : FunD K "__init__" "Kept.__init__" (defArgs sIKept) (defBody sIKept) (defScope sIKept) [.non] [] f fd) : KBn K fd ["self", "test"] 1 ["test"] (fun us ws => us ++ ws) (fun us ws => us ++ ws) := by
  obtain ⟨oc, od, dV, kV, doc, pm, an, cdv, ct, osl, rfl, lk, hcd, hD, hK⟩ := F.ex
  rcases hD with ⟨e, _⟩ | ⟨_, T, o, its, m, rfl, lT, oT, rT⟩
  · cases e
  · refine ⟨fun s us ws X l1 l2 => ?_, fun r1 r2 => r1.append r2⟩
    match us, ws, its, l1, l2, rT, oT with
    | [u], [v], [d], _, _, _, oT =>
      have e : ∃ k, bindArgs (fnOf "__init__" "Kept.__init__" (defArgs sIKept) (defBody sIKept) (defScope sIKept) (.ref T) kV doc pm an cdv ct) ⟨[u], [("test", v)]⟩ = seqItems? (.ref T) >>= k ∧ k (some [d].toArray) = pure ([(("self" : Str), u), ("test", v)] : List (Str × Value)) := ⟨_, rfl, rfl⟩
      obtain ⟨k, e1, e2⟩ := e
      refine BindsTo.of_looks fun M => ?_
      show Looks M s.heap (bindArgs (fnOf "__init__" "Kept.__init__" (defArgs sIKept) (defBody sIKept) (defScope sIKept) (.ref T) kV doc pm an cdv ct) ⟨[u], [("test", v)]⟩) _
      rw [e1]
      exact looks_items X lT oT (.of_pure e2)
theorem named_mk {K : Frag} {D : Addr} {nm : Str} {c : Value} {dd : Option Addr} {da : Data} {sl : Array (Option Value)} {t : Tok} (a : readsIn K D (.type "type") = true)
    (b : findCls K (.ref D) (.type "type") "__name__" = some (.get (.builtin "getset_descriptor.__get__") (.builtin "type.__name__") (.ref D) (.type "type"))) (ty : typeIn K (.ref D) = some (.type "type")) (l : K.lookup D = some ⟨c, dd, da, sl⟩) (s : sl[2]? = some (some (.str nm t))) : Named K D nm := ⟨a, b, ty, _, t, l, s⟩
/-- the eighteen classes: which is an instance of which -/
def kits (K : Frag) (C : Nat → Addr) : Bool := (List.range 18).all fun i => (List.range 18).all fun j => kitOne K (.ref (C i)) (.ref (C j)) == some (decide (i = j))
theorem kits_at {K : Frag} {C : Nat → Addr} (h : kits K C = true) (i j : Nat) (hi : i < 18) (hj : j < 18) : kitOne K (.ref (C i)) (.ref (C j)) = some (decide (i = j)) :=
  eq_of_beq (List.all_eq_true.mp (List.all_eq_true.mp h i (List.mem_range.mpr hi)) j (List.mem_range.mpr hj))
def kitA (K : Frag) (C : Nat → Addr) (CA : Addr) : Bool := (List.range 18).all fun i => kitOne K (.ref (C i)) (.ref CA) == some (decide (8 ≤ i ∧ i ≤ 16))
theorem kitA_at {K : Frag} {C : Nat → Addr} {CA : Addr} (h : kitA K C CA = true) (i : Nat) (hi : i < 18) : kitOne K (.ref (C i)) (.ref CA) = some (decide (8 ≤ i ∧ i ≤ 16)) :=
  eq_of_beq (List.all_eq_true.mp h i (List.mem_range.mpr hi))
def outs (K : Frag) (C : Nat → Addr) : Bool := (List.range 18).all fun i => (["NoneType", "bool", "int", "str", "list", "tuple", "dict"] : List String).all fun T => subIn K (.ref (C i)) (.type T) == some false
theorem outs_at {K : Frag} {C : Nat → Addr} (h : outs K C = true) : Outs K C :=
  ⟨fun i hi => ⟨fun T hT => eq_of_beq (List.all_eq_true.mp (List.all_eq_true.mp h i (List.mem_range.mpr hi)) T hT)⟩⟩
def n5 {α : Type} (a0 a1 a2 a3 a4 : α) : Nat → α
  | 0 => a0
  | 1 => a1
  | 2 => a2
  | 3 => a3
  | _ => a4
def n9 {α : Type} (a0 a1 a2 a3 a4 a5 a6 a7 a8 : α) : Nat → α
  | 0 => a0
  | 1 => a1
  | 2 => a2
  | 3 => a3
  | 4 => a4
  | 5 => a5
  | 6 => a6
  | 7 => a7
  | _ => a8
def n18 {α : Type} (a0 a1 a2 a3 a4 a5 a6 a7 a8 a9 a10 a11 a12 a13 a14 a15 a16 a17 : α) : Nat → α
  | 0 => a0
  | 1 => a1
  | 2 => a2
  | 3 => a3
  | 4 => a4
  | 5 => a5
  | 6 => a6
  | 7 => a7
  | 8 => a8
  | 9 => a9
  | 10 => a10
  | 11 => a11
  | 12 => a12
  | 13 => a13
  | 14 => a14
  | 15 => a15
  | 16 => a16
  | _ => a17
section
variable {P : Program} {w : World} {K : Frag} {mg : Str → Option Value} {base : Heap}
theorem fn_imp {CX : CXT} {k : Nat} {f : Addr} {fd : FuncData} {ps : List Str} {s1 s2 : Sp} (F : FnOk P w K mg base CX k f fd ps s1) (h : ∀ vs H Q E, s2 vs H Q E → s1 vs H Q E) : FnOk P w K mg base CX k f fd ps s2 :=
  ⟨fun vs H Q E x => F.len vs H Q E (h _ _ _ _ x), fun A outer s H args us vs Q E hr e0 hb r x => F.run A outer s H args us vs Q E hr e0 hb r (h _ _ _ _ x)⟩
theorem imp_1 {C D : Addr} {fld arg : Str} {b : Str → Bool} {ok : Str → Prop} (hb : ∀ z, ok z → b z = true ∧ z.length < 4000) (vs : List V) (H : Hp) (Q : VK) (E : XK) (h : spInit1 C fld ok vs H Q E) : spInitX C fld D b arg vs H Q E := by
  obtain ⟨a, dx, z, rfl, ha, hz, q⟩ := h
  obtain ⟨e, l⟩ := hb z hz
  exact ⟨a, dx, .str z, rfl, ha, .str z l, fun _ => q, fun no => by rw [show okv b (.str z) = b z from rfl, e] at no; cases no⟩
theorem short_len {z : Str} (h : shortB z = true) : shortB z = true ∧ z.length < 4000 := by
  refine ⟨h, ?_⟩
  unfold shortB at h
  rw [Bool.and_eq_true] at h
  have := of_decide_eq_true h.2
  omega
theorem imp_G {C : Nat → Addr} {D : Addr} (vs : List V) (H : Hp) (Q : VK) (E : XK) (h : spInitG C vs H Q E) : spInitF C D vs H Q E := by
  obtain ⟨a, dx, g, u, rfl, ha, tu, d8, q⟩ := h
  exact ⟨a, dx, u, true, rfl, ha, .inr ⟨g, tu, Nat.le_of_lt d8, (decide_eq_true d8).symm⟩, fun _ => q, fun no => by cases no⟩
theorem imp_D {C : Nat → Addr} {B D : Addr} (vs : List V) (H : Hp) (Q : VK) (E : XK) (h : spInitD C B vs H Q E) : spInitP C B D vs H Q E := by
  obtain ⟨a, dx, x, y, u, v, rfl, ha, tx, ty, p8, q⟩ := h
  refine ⟨a, dx, u, v, rfl, ha, true, true, .inr ⟨x, tx, Nat.le_of_lt p8.one, (decide_eq_true p8.one).symm⟩, .inr ⟨y, ty, Nat.le_of_lt p8.two, (decide_eq_true p8.two).symm⟩, (fun no => by cases no), (fun _ no => by cases no), fun _ _ => ⟨x, y, tx, ty, Nat.le_of_lt p8.one, Nat.le_of_lt p8.two, ?_, ?_, fun _ => q, fun no => absurd p8.few no⟩⟩
  · have := p8.few
    omega
  · have := p8.few
    omega
end
theorem all_mk {l : PySem.W.OpenLaw} {w : World} {K : Frag} {h : Heap} {mg : Str → Option Value} {fa a_pen a_draw a_pick a_sgn a_inl a_few a_row a_go a_mgo a_ms a_bu a_gw a_gd a_sp a_any a_cau a_le a_li a_wo a_sh a_di a_it a_pa a_de a_si a_fi a_ft a_cw a_cp a_ia a_inn a_ao a_ro a_da a_fta a_cc a_cn a_ii a_nr a_tr a_dr a_rr a_law c_nr c_tr c_dr c_rr c_law C0 C1 C2 C3 C4 C5 C6 C7 C8 C9 C10 C11 C12 C13 C14 C15 C16 C17 I0 I1 I2 I3 I4 I5 I6 I7 I9 I10 I12 I14 I15 I16 I17 E0 E1 E2 E3 E4 E5 E6 E7 E8 E9 E10 E11 E12 E13 E14 E15 E16 E17 P0 Q0 P1 Q1 P2 Q2 P3 Q3 P4 Q4 P5 Q5 P6 Q6 P7 Q7 P8 Q8 P9 Q9 P10 Q10 P11 Q11 P12 Q12 P13 Q13 CA DT DTI DA DAI : Addr} {t0 t1 t2 t3 t4 t5 t6 : Tok} (X : K.In h) (G : h.Ns mainGlobals mg) (hfa : mg "law" = some (.ref fa)) (tb1 : XJ.TabAt h mg "_law_numbers_right") (tb2 : XJ.TabAt h mg "_law_tests_right") (tb3 : XJ.TabAt h mg "_law_deep_right") (tb4 : XJ.TabAt h mg "_law_ranges_right")
    (g_pen : nsIn K mainGlobals "_law_pen" = some (some (.ref a_pen)))
    (f_pen : XJ.FnF K "_law_pen" "_law_pen" sPen a_pen)
    (k_pen : keepIn K (.ref a_pen) = true)
    (g_draw : nsIn K mainGlobals "_law_draw" = some (some (.ref a_draw)))
    (f_draw : XJ.FnF K "_law_draw" "_law_draw" sDraw a_draw)
    (k_draw : keepIn K (.ref a_draw) = true)
    (g_pick : nsIn K mainGlobals "_law_pick" = some (some (.ref a_pick)))
    (f_pick : XJ.FnF K "_law_pick" "_law_pick" sPick a_pick)
    (k_pick : keepIn K (.ref a_pick) = true)
    (g_sgn : nsIn K mainGlobals "_law_signs" = some (some (.ref a_sgn)))
    (f_sgn : XJ.FnF K "_law_signs" "_law_signs" sSigns a_sgn)
    (k_sgn : keepIn K (.ref a_sgn) = true)
    (g_inl : nsIn K mainGlobals "_law_is_number" = some (some (.ref a_inl)))
    (f_inl : XJ.FnF K "_law_is_number" "_law_is_number" sIsNumL a_inl)
    (k_inl : keepIn K (.ref a_inl) = true)
    (g_few : nsIn K mainGlobals "_law_few" = some (some (.ref a_few)))
    (f_few : XJ.FnF K "_law_few" "_law_few" sFew a_few)
    (k_few : keepIn K (.ref a_few) = true)
    (g_row : nsIn K mainGlobals "_law_row" = some (some (.ref a_row)))
    (f_row : XJ.FnF K "_law_row" "_law_row" sRow a_row)
    (k_row : keepIn K (.ref a_row) = true)
    (g_go : nsIn K mainGlobals "_law_goal" = some (some (.ref a_go)))
    (f_go : XJ.FnF K "_law_goal" "_law_goal" sGoal a_go)
    (k_go : keepIn K (.ref a_go) = true)
    (g_mgo : nsIn K mainGlobals "_law_made_goal" = some (some (.ref a_mgo)))
    (f_mgo : XJ.FnF K "_law_made_goal" "_law_made_goal" sMG a_mgo)
    (k_mgo : keepIn K (.ref a_mgo) = true)
    (g_ms : nsIn K mainGlobals "_law_made_spot" = some (some (.ref a_ms)))
    (f_ms : XJ.FnF K "_law_made_spot" "_law_made_spot" sMSp a_ms)
    (k_ms : keepIn K (.ref a_ms) = true)
    (g_bu : nsIn K mainGlobals "_law_budget" = some (some (.ref a_bu)))
    (f_bu : XJ.FnF K "_law_budget" "_law_budget" sBud a_bu)
    (k_bu : keepIn K (.ref a_bu) = true)
    (g_gw : nsIn K mainGlobals "_law_goal_words" = some (some (.ref a_gw)))
    (f_gw : XJ.FnF K "_law_goal_words" "_law_goal_words" sGW a_gw)
    (k_gw : keepIn K (.ref a_gw) = true)
    (g_gd : nsIn K mainGlobals "_law_goal_drawn" = some (some (.ref a_gd)))
    (f_gd : XJ.FnF K "_law_goal_drawn" "_law_goal_drawn" sGD a_gd)
    (k_gd : keepIn K (.ref a_gd) = true)
    (g_sp : nsIn K mainGlobals "_law_spot" = some (some (.ref a_sp)))
    (f_sp : XJ.FnF K "_law_spot" "_law_spot" sSpo a_sp)
    (k_sp : keepIn K (.ref a_sp) = true)
    (g_any : nsIn K mainGlobals "_law_any_value" = some (some (.ref a_any)))
    (f_any : XJ.FnF K "_law_any_value" "_law_any_value" sAny a_any)
    (k_any : keepIn K (.ref a_any) = true)
    (g_cau : nsIn K mainGlobals "_law_caught" = some (some (.ref a_cau)))
    (f_cau : XJ.FnF K "_law_caught" "_law_caught" sCau a_cau)
    (k_cau : keepIn K (.ref a_cau) = true)
    (g_le : nsIn K mainGlobals "is_letter" = some (some (.ref a_le)))
    (f_le : XJ.FnF K "is_letter" "is_letter" sLetter a_le)
    (k_le : keepIn K (.ref a_le) = true)
    (g_li : nsIn K mainGlobals "is_line" = some (some (.ref a_li)))
    (f_li : XJ.FnF K "is_line" "is_line" sLine a_li)
    (k_li : keepIn K (.ref a_li) = true)
    (g_wo : nsIn K mainGlobals "is_word" = some (some (.ref a_wo)))
    (f_wo : XJ.FnF K "is_word" "is_word" sWord a_wo)
    (k_wo : keepIn K (.ref a_wo) = true)
    (g_sh : nsIn K mainGlobals "is_short_word" = some (some (.ref a_sh)))
    (f_sh : XJ.FnF K "is_short_word" "is_short_word" sShort a_sh)
    (k_sh : keepIn K (.ref a_sh) = true)
    (g_di : nsIn K mainGlobals "are_different" = some (some (.ref a_di)))
    (f_di : XJ.FnF K "are_different" "are_different" sDiff a_di)
    (k_di : keepIn K (.ref a_di) = true)
    (g_it : nsIn K mainGlobals "is_test" = some (some (.ref a_it)))
    (f_it : XJ.FnF K "is_test" "is_test" sIsT a_it)
    (k_it : keepIn K (.ref a_it) = true)
    (g_pa : nsIn K mainGlobals "parts" = some (some (.ref a_pa)))
    (f_pa : XJ.FnF K "parts" "parts" sParts a_pa)
    (k_pa : keepIn K (.ref a_pa) = true)
    (g_de : nsIn K mainGlobals "depth_of_conditions" = some (some (.ref a_de)))
    (f_de : XJ.FnF K "depth_of" "depth_of" sDepth a_de)
    (k_de : keepIn K (.ref a_de) = true)
    (g_si : nsIn K mainGlobals "simple_tests" = some (some (.ref a_si)))
    (f_si : XJ.FnF K "simple_tests" "simple_tests" sSimple a_si)
    (k_si : keepIn K (.ref a_si) = true)
    (g_fi : nsIn K mainGlobals "fits_within_conditions" = some (some (.ref a_fi)))
    (f_fi : XJ.FnF K "fits_within" "fits_within" sFits a_fi)
    (k_fi : keepIn K (.ref a_fi) = true)
    (g_ft : nsIn K mainGlobals "fit_together" = some (some (.ref a_ft)))
    (f_ft : XJ.FnF K "fit_together" "fit_together" sFitT a_ft)
    (k_ft : keepIn K (.ref a_ft) = true)
    (g_cw : nsIn K mainGlobals "check_word" = some (some (.ref a_cw)))
    (f_cw : XJ.FnF K "check_word" "check_word" sChkW a_cw)
    (k_cw : keepIn K (.ref a_cw) = true)
    (g_cp : nsIn K mainGlobals "check_pair" = some (some (.ref a_cp)))
    (f_cp : XJ.FnF K "check_pair" "check_pair" sChkP a_cp)
    (k_cp : keepIn K (.ref a_cp) = true)
    (g_ia : nsIn K mainGlobals "is_address" = some (some (.ref a_ia)))
    (f_ia : XJ.FnF K "is_address" "is_address" sIsA a_ia)
    (k_ia : keepIn K (.ref a_ia) = true)
    (g_inn : nsIn K mainGlobals "inner" = some (some (.ref a_inn)))
    (f_inn : XJ.FnF K "inner" "inner" sInner a_inn)
    (k_inn : keepIn K (.ref a_inn) = true)
    (g_ao : nsIn K mainGlobals "addresses_of" = some (some (.ref a_ao)))
    (f_ao : XJ.FnF K "addresses_of" "addresses_of" sAof a_ao)
    (k_ao : keepIn K (.ref a_ao) = true)
    (g_ro : nsIn K mainGlobals "ranges_of" = some (some (.ref a_ro)))
    (f_ro : XJ.FnF K "ranges_of" "ranges_of" sRof a_ro)
    (k_ro : keepIn K (.ref a_ro) = true)
    (g_da : nsIn K mainGlobals "depth_of_scripts" = some (some (.ref a_da)))
    (f_da : XJ.FnF K "depth_of" "depth_of" sDepA a_da)
    (k_da : keepIn K (.ref a_da) = true)
    (g_fta : nsIn K mainGlobals "fits_within_scripts" = some (some (.ref a_fta)))
    (f_fta : XJ.FnF K "fits_within" "fits_within" sFitA a_fta)
    (k_fta : keepIn K (.ref a_fta) = true)
    (g_cc : nsIn K mainGlobals "check_counting" = some (some (.ref a_cc)))
    (f_cc : XJ.FnF K "check_counting" "check_counting" sCC a_cc)
    (k_cc : keepIn K (.ref a_cc) = true)
    (g_cn : nsIn K mainGlobals "is_counting" = some (some (.ref a_cn)))
    (f_cn : XJ.FnF K "is_counting" "is_counting" sCounting a_cn)
    (k_cn : keepIn K (.ref a_cn) = true)
    (g_ii : nsIn K mainGlobals "is_integer" = some (some (.ref a_ii)))
    (f_ii : XJ.FnF K "is_integer" "is_integer" sIsInt a_ii)
    (k_ii : keepIn K (.ref a_ii) = true)
    (g_nr : nsIn K mainGlobals "_law_numbers_right" = some (some (.ref a_nr)))
    (f_nr : XJ.FnFC K "_law_numbers_right" "_law_numbers_right" sNmR a_nr c_nr)
    (k_nr : keepIn K (.ref a_nr) = true)
    (g_tr : nsIn K mainGlobals "_law_tests_right" = some (some (.ref a_tr)))
    (f_tr : XJ.FnFC K "_law_tests_right" "_law_tests_right" sTsR a_tr c_tr)
    (k_tr : keepIn K (.ref a_tr) = true)
    (g_dr : nsIn K mainGlobals "_law_deep_right" = some (some (.ref a_dr)))
    (f_dr : XJ.FnFC K "_law_deep_right" "_law_deep_right" sDpR a_dr c_dr)
    (k_dr : keepIn K (.ref a_dr) = true)
    (g_rr : nsIn K mainGlobals "_law_ranges_right" = some (some (.ref a_rr)))
    (f_rr : XJ.FnFC K "_law_ranges_right" "_law_ranges_right" sRgR a_rr c_rr)
    (k_rr : keepIn K (.ref a_rr) = true)
    (g_law : nsIn K mainGlobals "law" = some (some (.ref a_law)))
    (f_law : XJ.FnFC K "law" "law" sLaw a_law c_law)
    (k_law : keepIn K (.ref a_law) = true)
    (apt : tabs4 K c_nr c_tr c_dr c_rr = true)
    (gc0 : nsIn K mainGlobals "Has" = some (some (.ref C0)))
    (cl0 : Cls K C0)
    (mk0 : Mk K C0 I0)
    (fi0 : XJ.FnF K "__init__" "Has.__init__" sIHas I0)
    (ki0 : keepIn K (.ref I0) = true)
    (eq0 : findIn K (.ref C0) "__eq__" = some (some (.ref E0)))
    (fe0 : XJ.FnF K "__eq__" "Has.__eq__" sQHas E0)
    (ke0 : keepIn K (.ref E0) = true)
    (ie0 : isFn K (.ref E0) = true)
    (ne0 : findIn K (.ref C0) "__ne__" = some (some (.builtin "object.__ne__")))
    (ca0 : findIn K (.ref C0) "__class__" = some (some (.builtin "object.__class__")))
    (ob0 : mroIn K C0 (.type "object") = some true)
    (no0a : NoAttr K C0 "_word")
    (gc1 : nsIn K mainGlobals "Begins" = some (some (.ref C1)))
    (cl1 : Cls K C1)
    (mk1 : Mk K C1 I1)
    (fi1 : XJ.FnF K "__init__" "Begins.__init__" sIBegins I1)
    (ki1 : keepIn K (.ref I1) = true)
    (eq1 : findIn K (.ref C1) "__eq__" = some (some (.ref E1)))
    (fe1 : XJ.FnF K "__eq__" "Begins.__eq__" sQBegins E1)
    (ke1 : keepIn K (.ref E1) = true)
    (ie1 : isFn K (.ref E1) = true)
    (ne1 : findIn K (.ref C1) "__ne__" = some (some (.builtin "object.__ne__")))
    (ca1 : findIn K (.ref C1) "__class__" = some (some (.builtin "object.__class__")))
    (ob1 : mroIn K C1 (.type "object") = some true)
    (no1a : NoAttr K C1 "_word")
    (gc2 : nsIn K mainGlobals "Ends" = some (some (.ref C2)))
    (cl2 : Cls K C2)
    (mk2 : Mk K C2 I2)
    (fi2 : XJ.FnF K "__init__" "Ends.__init__" sIEnds I2)
    (ki2 : keepIn K (.ref I2) = true)
    (eq2 : findIn K (.ref C2) "__eq__" = some (some (.ref E2)))
    (fe2 : XJ.FnF K "__eq__" "Ends.__eq__" sQEnds E2)
    (ke2 : keepIn K (.ref E2) = true)
    (ie2 : isFn K (.ref E2) = true)
    (ne2 : findIn K (.ref C2) "__ne__" = some (some (.builtin "object.__ne__")))
    (ca2 : findIn K (.ref C2) "__class__" = some (some (.builtin "object.__class__")))
    (ob2 : mroIn K C2 (.type "object") = some true)
    (no2a : NoAttr K C2 "_word")
    (gc3 : nsIn K mainGlobals "Is" = some (some (.ref C3)))
    (cl3 : Cls K C3)
    (mk3 : Mk K C3 I3)
    (fi3 : XJ.FnF K "__init__" "Is.__init__" sIIs I3)
    (ki3 : keepIn K (.ref I3) = true)
    (eq3 : findIn K (.ref C3) "__eq__" = some (some (.ref E3)))
    (fe3 : XJ.FnF K "__eq__" "Is.__eq__" sQIs E3)
    (ke3 : keepIn K (.ref E3) = true)
    (ie3 : isFn K (.ref E3) = true)
    (ne3 : findIn K (.ref C3) "__ne__" = some (some (.builtin "object.__ne__")))
    (ca3 : findIn K (.ref C3) "__class__" = some (some (.builtin "object.__class__")))
    (ob3 : mroIn K C3 (.type "object") = some true)
    (no3a : NoAttr K C3 "_line")
    (gc4 : nsIn K mainGlobals "Only" = some (some (.ref C4)))
    (cl4 : Cls K C4)
    (mk4 : Mk K C4 I4)
    (fi4 : XJ.FnF K "__init__" "Only.__init__" sIOn I4)
    (ki4 : keepIn K (.ref I4) = true)
    (eq4 : findIn K (.ref C4) "__eq__" = some (some (.ref E4)))
    (fe4 : XJ.FnF K "__eq__" "Only.__eq__" sQOn E4)
    (ke4 : keepIn K (.ref E4) = true)
    (ie4 : isFn K (.ref E4) = true)
    (ne4 : findIn K (.ref C4) "__ne__" = some (some (.builtin "object.__ne__")))
    (ca4 : findIn K (.ref C4) "__class__" = some (some (.builtin "object.__class__")))
    (ob4 : mroIn K C4 (.type "object") = some true)
    (no4a : NoAttr K C4 "_letters")
    (gc5 : nsIn K mainGlobals "Fails" = some (some (.ref C5)))
    (cl5 : Cls K C5)
    (mk5 : Mk K C5 I5)
    (fi5 : XJ.FnF K "__init__" "Fails.__init__" sIFa I5)
    (ki5 : keepIn K (.ref I5) = true)
    (eq5 : findIn K (.ref C5) "__eq__" = some (some (.ref E5)))
    (fe5 : XJ.FnF K "__eq__" "Fails.__eq__" sQFails E5)
    (ke5 : keepIn K (.ref E5) = true)
    (ie5 : isFn K (.ref E5) = true)
    (ne5 : findIn K (.ref C5) "__ne__" = some (some (.builtin "object.__ne__")))
    (ca5 : findIn K (.ref C5) "__class__" = some (some (.builtin "object.__class__")))
    (ob5 : mroIn K C5 (.type "object") = some true)
    (no5a : NoAttr K C5 "_test")
    (gc6 : nsIn K mainGlobals "Both" = some (some (.ref C6)))
    (cl6 : Cls K C6)
    (mk6 : Mk K C6 I6)
    (fi6 : XJ.FnF K "__init__" "Both.__init__" sIBoth I6)
    (ki6 : keepIn K (.ref I6) = true)
    (eq6 : findIn K (.ref C6) "__eq__" = some (some (.ref E6)))
    (fe6 : XJ.FnF K "__eq__" "Both.__eq__" sQBoth E6)
    (ke6 : keepIn K (.ref E6) = true)
    (ie6 : isFn K (.ref E6) = true)
    (ne6 : findIn K (.ref C6) "__ne__" = some (some (.builtin "object.__ne__")))
    (ca6 : findIn K (.ref C6) "__class__" = some (some (.builtin "object.__class__")))
    (ob6 : mroIn K C6 (.type "object") = some true)
    (no6a : NoAttr K C6 "_one")
    (no6b : NoAttr K C6 "_other")
    (gc7 : nsIn K mainGlobals "Either" = some (some (.ref C7)))
    (cl7 : Cls K C7)
    (mk7 : Mk K C7 I7)
    (fi7 : XJ.FnF K "__init__" "Either.__init__" sIEither I7)
    (ki7 : keepIn K (.ref I7) = true)
    (eq7 : findIn K (.ref C7) "__eq__" = some (some (.ref E7)))
    (fe7 : XJ.FnF K "__eq__" "Either.__eq__" sQEither E7)
    (ke7 : keepIn K (.ref E7) = true)
    (ie7 : isFn K (.ref E7) = true)
    (ne7 : findIn K (.ref C7) "__ne__" = some (some (.builtin "object.__ne__")))
    (ca7 : findIn K (.ref C7) "__class__" = some (some (.builtin "object.__class__")))
    (ob7 : mroIn K C7 (.type "object") = some true)
    (no7a : NoAttr K C7 "_one")
    (no7b : NoAttr K C7 "_other")
    (gc8 : nsIn K mainGlobals "Any" = some (some (.ref C8)))
    (cl8 : Cls K C8)
    (br8 : Bare K C8)
    (eq8 : findIn K (.ref C8) "__eq__" = some (some (.ref E8)))
    (fe8 : XJ.FnF K "__eq__" "Any.__eq__" sQAny E8)
    (ke8 : keepIn K (.ref E8) = true)
    (ie8 : isFn K (.ref E8) = true)
    (ne8 : findIn K (.ref C8) "__ne__" = some (some (.builtin "object.__ne__")))
    (ca8 : findIn K (.ref C8) "__class__" = some (some (.builtin "object.__class__")))
    (ob8 : mroIn K C8 (.type "object") = some true)
    (nm8 : Named K C8 "Any")
    (gc9 : nsIn K mainGlobals "Number" = some (some (.ref C9)))
    (cl9 : Cls K C9)
    (mk9 : Mk K C9 I9)
    (fi9 : XJ.FnF K "__init__" "Number.__init__" sINumber I9)
    (ki9 : keepIn K (.ref I9) = true)
    (eq9 : findIn K (.ref C9) "__eq__" = some (some (.ref E9)))
    (fe9 : XJ.FnF K "__eq__" "Number.__eq__" sQNumber E9)
    (ke9 : keepIn K (.ref E9) = true)
    (ie9 : isFn K (.ref E9) = true)
    (ne9 : findIn K (.ref C9) "__ne__" = some (some (.builtin "object.__ne__")))
    (ca9 : findIn K (.ref C9) "__class__" = some (some (.builtin "object.__class__")))
    (ob9 : mroIn K C9 (.type "object") = some true)
    (no9a : NoAttr K C9 "_number")
    (nm9 : Named K C9 "Number")
    (gc10 : nsIn K mainGlobals "Each" = some (some (.ref C10)))
    (cl10 : Cls K C10)
    (mk10 : Mk K C10 I10)
    (fi10 : XJ.FnF K "__init__" "Each.__init__" sIEach I10)
    (ki10 : keepIn K (.ref I10) = true)
    (eq10 : findIn K (.ref C10) "__eq__" = some (some (.ref E10)))
    (fe10 : XJ.FnF K "__eq__" "Each.__eq__" sQEach E10)
    (ke10 : keepIn K (.ref E10) = true)
    (ie10 : isFn K (.ref E10) = true)
    (ne10 : findIn K (.ref C10) "__ne__" = some (some (.builtin "object.__ne__")))
    (ca10 : findIn K (.ref C10) "__class__" = some (some (.builtin "object.__class__")))
    (ob10 : mroIn K C10 (.type "object") = some true)
    (no10a : NoAttr K C10 "_step")
    (no10b : NoAttr K C10 "_start")
    (nm10 : Named K C10 "Each")
    (gc11 : nsIn K mainGlobals "Last" = some (some (.ref C11)))
    (cl11 : Cls K C11)
    (br11 : Bare K C11)
    (eq11 : findIn K (.ref C11) "__eq__" = some (some (.ref E11)))
    (fe11 : XJ.FnF K "__eq__" "Last.__eq__" sQLast E11)
    (ke11 : keepIn K (.ref E11) = true)
    (ie11 : isFn K (.ref E11) = true)
    (ne11 : findIn K (.ref C11) "__ne__" = some (some (.builtin "object.__ne__")))
    (ca11 : findIn K (.ref C11) "__class__" = some (some (.builtin "object.__class__")))
    (ob11 : mroIn K C11 (.type "object") = some true)
    (nm11 : Named K C11 "Last")
    (gc12 : nsIn K mainGlobals "If" = some (some (.ref C12)))
    (cl12 : Cls K C12)
    (mk12 : Mk K C12 I12)
    (fi12 : XJ.FnF K "__init__" "If.__init__" sIIf I12)
    (ki12 : keepIn K (.ref I12) = true)
    (eq12 : findIn K (.ref C12) "__eq__" = some (some (.ref E12)))
    (fe12 : XJ.FnF K "__eq__" "If.__eq__" sQIf E12)
    (ke12 : keepIn K (.ref E12) = true)
    (ie12 : isFn K (.ref E12) = true)
    (ne12 : findIn K (.ref C12) "__ne__" = some (some (.builtin "object.__ne__")))
    (ca12 : findIn K (.ref C12) "__class__" = some (some (.builtin "object.__class__")))
    (ob12 : mroIn K C12 (.type "object") = some true)
    (no12a : NoAttr K C12 "_test")
    (nm12 : Named K C12 "If")
    (gc13 : nsIn K mainGlobals "Changed" = some (some (.ref C13)))
    (cl13 : Cls K C13)
    (br13 : Bare K C13)
    (eq13 : findIn K (.ref C13) "__eq__" = some (some (.ref E13)))
    (fe13 : XJ.FnF K "__eq__" "Changed.__eq__" sQChanged E13)
    (ke13 : keepIn K (.ref E13) = true)
    (ie13 : isFn K (.ref E13) = true)
    (ne13 : findIn K (.ref C13) "__ne__" = some (some (.builtin "object.__ne__")))
    (ca13 : findIn K (.ref C13) "__class__" = some (some (.builtin "object.__class__")))
    (ob13 : mroIn K C13 (.type "object") = some true)
    (nm13 : Named K C13 "Changed")
    (gc14 : nsIn K mainGlobals "Kept" = some (some (.ref C14)))
    (cl14 : Cls K C14)
    (mk14 : Mk K C14 I14)
    (fi14 : FnFD K I14)
    (eq14 : findIn K (.ref C14) "__eq__" = some (some (.ref E14)))
    (fe14 : XJ.FnF K "__eq__" "Kept.__eq__" sQKept E14)
    (ke14 : keepIn K (.ref E14) = true)
    (ie14 : isFn K (.ref E14) = true)
    (ne14 : findIn K (.ref C14) "__ne__" = some (some (.builtin "object.__ne__")))
    (ca14 : findIn K (.ref C14) "__class__" = some (some (.builtin "object.__class__")))
    (ob14 : mroIn K C14 (.type "object") = some true)
    (no14a : NoAttr K C14 "_test")
    (nm14 : Named K C14 "Kept")
    (gc15 : nsIn K mainGlobals "Not" = some (some (.ref C15)))
    (cl15 : Cls K C15)
    (mk15 : Mk K C15 I15)
    (fi15 : XJ.FnF K "__init__" "Not.__init__" sINot I15)
    (ki15 : keepIn K (.ref I15) = true)
    (eq15 : findIn K (.ref C15) "__eq__" = some (some (.ref E15)))
    (fe15 : XJ.FnF K "__eq__" "Not.__eq__" sQNot E15)
    (ke15 : keepIn K (.ref E15) = true)
    (ie15 : isFn K (.ref E15) = true)
    (ne15 : findIn K (.ref C15) "__ne__" = some (some (.builtin "object.__ne__")))
    (ca15 : findIn K (.ref C15) "__class__" = some (some (.builtin "object.__class__")))
    (ob15 : mroIn K C15 (.type "object") = some true)
    (no15a : NoAttr K C15 "_address")
    (nm15 : Named K C15 "Not")
    (gc16 : nsIn K mainGlobals "Range" = some (some (.ref C16)))
    (cl16 : Cls K C16)
    (mk16 : Mk K C16 I16)
    (fi16 : XJ.FnF K "__init__" "Range.__init__" sIRange I16)
    (ki16 : keepIn K (.ref I16) = true)
    (eq16 : findIn K (.ref C16) "__eq__" = some (some (.ref E16)))
    (fe16 : XJ.FnF K "__eq__" "Range.__eq__" sQRange E16)
    (ke16 : keepIn K (.ref E16) = true)
    (ie16 : isFn K (.ref E16) = true)
    (ne16 : findIn K (.ref C16) "__ne__" = some (some (.builtin "object.__ne__")))
    (ca16 : findIn K (.ref C16) "__class__" = some (some (.builtin "object.__class__")))
    (ob16 : mroIn K C16 (.type "object") = some true)
    (no16a : NoAttr K C16 "_start")
    (no16b : NoAttr K C16 "_stop")
    (nm16 : Named K C16 "Range")
    (gc17 : nsIn K mainGlobals "Count" = some (some (.ref C17)))
    (cl17 : Cls K C17)
    (mk17 : Mk K C17 I17)
    (fi17 : XJ.FnF K "__init__" "Count.__init__" sICount I17)
    (ki17 : keepIn K (.ref I17) = true)
    (eq17 : findIn K (.ref C17) "__eq__" = some (some (.ref E17)))
    (fe17 : XJ.FnF K "__eq__" "Count.__eq__" sQCount E17)
    (ke17 : keepIn K (.ref E17) = true)
    (ie17 : isFn K (.ref E17) = true)
    (ne17 : findIn K (.ref C17) "__ne__" = some (some (.builtin "object.__ne__")))
    (ca17 : findIn K (.ref C17) "__class__" = some (some (.builtin "object.__class__")))
    (ob17 : mroIn K C17 (.type "object") = some true)
    (no17a : NoAttr K C17 "_number")
    (pr0 : PropOf K C5 "test" P0 Q0)
    (fq0 : XJ.FnF K "test" "Fails.test" sGFtest Q0)
    (kq0 : keepIn K (.ref Q0) = true)
    (pr1 : PropOf K C6 "one" P1 Q1)
    (fq1 : XJ.FnF K "one" "Both.one" sGBone Q1)
    (kq1 : keepIn K (.ref Q1) = true)
    (pr2 : PropOf K C6 "other" P2 Q2)
    (fq2 : XJ.FnF K "other" "Both.other" sGBother Q2)
    (kq2 : keepIn K (.ref Q2) = true)
    (pr3 : PropOf K C7 "one" P3 Q3)
    (fq3 : XJ.FnF K "one" "Either.one" sGEone Q3)
    (kq3 : keepIn K (.ref Q3) = true)
    (pr4 : PropOf K C7 "other" P4 Q4)
    (fq4 : XJ.FnF K "other" "Either.other" sGEother Q4)
    (kq4 : keepIn K (.ref Q4) = true)
    (pr5 : PropOf K C9 "number" P5 Q5)
    (fq5 : XJ.FnF K "number" "Number.number" sPNum Q5)
    (kq5 : keepIn K (.ref Q5) = true)
    (pr6 : PropOf K C10 "step" P6 Q6)
    (fq6 : XJ.FnF K "step" "Each.step" sPStep Q6)
    (kq6 : keepIn K (.ref Q6) = true)
    (pr7 : PropOf K C10 "start" P7 Q7)
    (fq7 : XJ.FnF K "start" "Each.start" sPStartE Q7)
    (kq7 : keepIn K (.ref Q7) = true)
    (pr8 : PropOf K C12 "test" P8 Q8)
    (fq8 : XJ.FnF K "test" "If.test" sPIf Q8)
    (kq8 : keepIn K (.ref Q8) = true)
    (pr9 : PropOf K C14 "test" P9 Q9)
    (fq9 : XJ.FnF K "test" "Kept.test" sPKept Q9)
    (kq9 : keepIn K (.ref Q9) = true)
    (pr10 : PropOf K C15 "address" P10 Q10)
    (fq10 : XJ.FnF K "address" "Not.address" sPNot Q10)
    (kq10 : keepIn K (.ref Q10) = true)
    (pr11 : PropOf K C16 "start" P11 Q11)
    (fq11 : XJ.FnF K "start" "Range.start" sPStart Q11)
    (kq11 : keepIn K (.ref Q11) = true)
    (pr12 : PropOf K C16 "stop" P12 Q12)
    (fq12 : XJ.FnF K "stop" "Range.stop" sPStop Q12)
    (kq12 : keepIn K (.ref Q12) = true)
    (pr13 : PropOf K C17 "number" P13 Q13)
    (fq13 : XJ.FnF K "number" "Count.number" sPCount Q13)
    (kq13 : keepIn K (.ref Q13) = true)
    (cg : specialIn K (.builtin "object.__class__") "__get__" = some (some (.builtin "getset_descriptor.__get__")))
    (ct : takesIn K (.builtin "object.__class__") = some true)
    (kts : kits K (n18 C0 C1 C2 C3 C4 C5 C6 C7 C8 C9 C10 C11 C12 C13 C14 C15 C16 C17) = true)
    (kta : kitA K (n18 C0 C1 C2 C3 C4 C5 C6 C7 C8 C9 C10 C11 C12 C13 C14 C15 C16 C17) CA = true)
    (out : outs K (n18 C0 C1 C2 C3 C4 C5 C6 C7 C8 C9 C10 C11 C12 C13 C14 C15 C16 C17) = true)
    (gCA : nsIn K mainGlobals "Address" = some (some (.ref CA)))
    (er : XJ.ErrF K "InvalidTest" DT)
    (er_no : findIn K (.ref DT) "argument" = some none)
    (er_i : findIn K (.ref DT) "__init__" = some (some (.ref DTI)))
    (er_ty : typeIn K (.ref DTI) = some (.type "function"))
    (er_f : XJ.FnF K "__init__" "InvalidTest.__init__" sXI DTI)
    (er_k : keepIn K (.ref DTI) = true)
    (ea : XJ.ErrF K "InvalidAddress" DA)
    (ea_no : findIn K (.ref DA) "argument" = some none)
    (ea_i : findIn K (.ref DA) "__init__" = some (some (.ref DAI)))
    (ea_ty : typeIn K (.ref DAI) = some (.type "function"))
    (ea_f : XJ.FnF K "__init__" "InvalidAddress.__init__" sXA DAI)
    (ea_k : keepIn K (.ref DAI) = true)
    (ea_ex : exmOne K (.ref DA) (.ref DA) = some true)
    (ea_kv : kitOne K (.ref DA) (.type "ValueError") = some true)
    (z_len : nsIn K mainGlobals "len" = some none)
    (z_int : nsIn K mainGlobals "int" = some none)
    (z_list : nsIn K mainGlobals "list" = some none)
    (z_abs : nsIn K mainGlobals "abs" = some none)
    (z_range : nsIn K mainGlobals "range" = some none)
    (z_set : nsIn K mainGlobals "set" = some none)
    (z_all : nsIn K mainGlobals "all" = some none)
    (z_ord : nsIn K mainGlobals "ord" = some none)
    (z_isinstance : nsIn K mainGlobals "isinstance" = some none)
    (z_str : nsIn K mainGlobals "str" = some none)
    (z_max : nsIn K mainGlobals "max" = some none)
    (z_bool : nsIn K mainGlobals "bool" = some none)
    (z_repr : nsIn K mainGlobals "repr" = some none)
    (z_ValueError : nsIn K mainGlobals "ValueError" = some none)
    (z_sum : nsIn K mainGlobals "sum" = some none)
    (z_min : nsIn K mainGlobals "min" = some none)
    (y0 : nsIn K mainGlobals "FIRST_LETTER" = some (some (.int 32 t0)))
    (y1 : nsIn K mainGlobals "LAST_LETTER" = some (some (.int 126 t1)))
    (y2 : nsIn K mainGlobals "PERCENT_SIGN" = some (some (.int 37 t2)))
    (y3 : nsIn K mainGlobals "MAX_WORD" = some (some (.int 8 t3)))
    (y4 : nsIn K mainGlobals "MAX_LINE" = some (some (.int 20 t4)))
    (y5 : nsIn K mainGlobals "MAX_DEPTH" = some (some (.int 8 t5)))
    (y6 : nsIn K mainGlobals "MOST_SIMPLE" = some (some (.int 8 t6))) :
    XK.CallerAtT l w K 21 63 "_law_script" mg fa h := by
  have e := hfa.symm.trans (mg_of X G g_law)
  cases e
  obtain ⟨d_pen, F_pen⟩ := f_pen.get k_pen
  have b_pen := F_pen.binds (ps := ["_law_script"]) fun _ _ _ _ _ _ us hl => match us, hl with | [_], _ => rfl
  obtain ⟨d_draw, F_draw⟩ := f_draw.get k_draw
  have b_draw := F_draw.binds (ps := ["_law_pen_here", "_law_span"]) fun _ _ _ _ _ _ us hl => match us, hl with | [_, _], _ => rfl
  obtain ⟨d_pick, F_pick⟩ := f_pick.get k_pick
  have b_pick := F_pick.binds (ps := ["_law_pen_here", "_law_options"]) fun _ _ _ _ _ _ us hl => match us, hl with | [_, _], _ => rfl
  obtain ⟨d_sgn, F_sgn⟩ := f_sgn.get k_sgn
  have b_sgn := F_sgn.binds (ps := ([] : List Str)) fun _ _ _ _ _ _ us hl => match us, hl with | [], _ => rfl
  obtain ⟨d_inl, F_inl⟩ := f_inl.get k_inl
  have b_inl := F_inl.binds (ps := ["_law_thing", "_law_low", "_law_high"]) fun _ _ _ _ _ _ us hl => match us, hl with | [_, _, _], _ => rfl
  obtain ⟨d_few, F_few⟩ := f_few.get k_few
  have b_few := F_few.binds (ps := ["_law_pen_here"]) fun _ _ _ _ _ _ us hl => match us, hl with | [_], _ => rfl
  obtain ⟨d_row, F_row⟩ := f_row.get k_row
  have b_row := F_row.binds (ps := ["_law_pen_here", "_law_signs_here", "_law_least", "_law_most_letters"]) fun _ _ _ _ _ _ us hl => match us, hl with | [_, _, _, _], _ => rfl
  obtain ⟨d_go, F_go⟩ := f_go.get k_go
  have b_go := F_go.binds (ps := ["_law_pen_here", "_law_signs_here", "_law_wide", "_law_deep"]) fun _ _ _ _ _ _ us hl => match us, hl with | [_, _, _, _], _ => rfl
  obtain ⟨d_mgo, F_mgo⟩ := f_mgo.get k_mgo
  have b_mgo := F_mgo.binds (ps := ["_law_goal_here"]) fun _ _ _ _ _ _ us hl => match us, hl with | [_], _ => rfl
  obtain ⟨d_ms, F_ms⟩ := f_ms.get k_ms
  have b_ms := F_ms.binds (ps := ["_law_spot_here"]) fun _ _ _ _ _ _ us hl => match us, hl with | [_], _ => rfl
  obtain ⟨d_bu, F_bu⟩ := f_bu.get k_bu
  have b_bu := F_bu.binds (ps := ["_law_is_tight"]) fun _ _ _ _ _ _ us hl => match us, hl with | [_], _ => rfl
  obtain ⟨d_gw, F_gw⟩ := f_gw.get k_gw
  have b_gw := F_gw.binds (ps := ["_law_goal_here"]) fun _ _ _ _ _ _ us hl => match us, hl with | [_], _ => rfl
  obtain ⟨d_gd, F_gd⟩ := f_gd.get k_gd
  have b_gd := F_gd.binds (ps := ["_law_pen_here", "_law_signs_here", "_law_left"]) fun _ _ _ _ _ _ us hl => match us, hl with | [_, _, _], _ => rfl
  obtain ⟨d_sp, F_sp⟩ := f_sp.get k_sp
  have b_sp := F_sp.binds (ps := ["_law_pen_here", "_law_signs_here", "_law_left", "_law_deep"]) fun _ _ _ _ _ _ us hl => match us, hl with | [_, _, _, _], _ => rfl
  obtain ⟨d_any, F_any⟩ := f_any.get k_any
  have b_any := F_any.binds (ps := ["_law_pen_here"]) fun _ _ _ _ _ _ us hl => match us, hl with | [_], _ => rfl
  obtain ⟨d_cau, F_cau⟩ := f_cau.get k_cau
  have b_cau := F_cau.binds (ps := ["_law_call"]) fun _ _ _ _ _ _ us hl => match us, hl with | [_], _ => rfl
  obtain ⟨d_le, F_le⟩ := f_le.get k_le
  have b_le := F_le.binds (ps := ["character"]) fun _ _ _ _ _ _ us hl => match us, hl with | [_], _ => rfl
  obtain ⟨d_li, F_li⟩ := f_li.get k_li
  have b_li := F_li.binds (ps := ["value"]) fun _ _ _ _ _ _ us hl => match us, hl with | [_], _ => rfl
  obtain ⟨d_wo, F_wo⟩ := f_wo.get k_wo
  have b_wo := F_wo.binds (ps := ["value"]) fun _ _ _ _ _ _ us hl => match us, hl with | [_], _ => rfl
  obtain ⟨d_sh, F_sh⟩ := f_sh.get k_sh
  have b_sh := F_sh.binds (ps := ["value"]) fun _ _ _ _ _ _ us hl => match us, hl with | [_], _ => rfl
  obtain ⟨d_di, F_di⟩ := f_di.get k_di
  have b_di := F_di.binds (ps := ["line"]) fun _ _ _ _ _ _ us hl => match us, hl with | [_], _ => rfl
  obtain ⟨d_it, F_it⟩ := f_it.get k_it
  have b_it := F_it.binds (ps := ["value"]) fun _ _ _ _ _ _ us hl => match us, hl with | [_], _ => rfl
  obtain ⟨d_pa, F_pa⟩ := f_pa.get k_pa
  have b_pa := F_pa.binds (ps := ["test"]) fun _ _ _ _ _ _ us hl => match us, hl with | [_], _ => rfl
  obtain ⟨d_de, F_de⟩ := f_de.get k_de
  have b_de := F_de.binds (ps := ["test"]) fun _ _ _ _ _ _ us hl => match us, hl with | [_], _ => rfl
  obtain ⟨d_si, F_si⟩ := f_si.get k_si
  have b_si := F_si.binds (ps := ["test"]) fun _ _ _ _ _ _ us hl => match us, hl with | [_], _ => rfl
  obtain ⟨d_fi, F_fi⟩ := f_fi.get k_fi
  have b_fi := F_fi.binds (ps := ["value"]) fun _ _ _ _ _ _ us hl => match us, hl with | [_], _ => rfl
  obtain ⟨d_ft, F_ft⟩ := f_ft.get k_ft
  have b_ft := F_ft.binds (ps := ["one", "other"]) fun _ _ _ _ _ _ us hl => match us, hl with | [_, _], _ => rfl
  obtain ⟨d_cw, F_cw⟩ := f_cw.get k_cw
  have b_cw := F_cw.binds (ps := ["word"]) fun _ _ _ _ _ _ us hl => match us, hl with | [_], _ => rfl
  obtain ⟨d_cp, F_cp⟩ := f_cp.get k_cp
  have b_cp := F_cp.binds (ps := ["one", "other"]) fun _ _ _ _ _ _ us hl => match us, hl with | [_, _], _ => rfl
  obtain ⟨d_ia, F_ia⟩ := f_ia.get k_ia
  have b_ia := F_ia.binds (ps := ["value"]) fun _ _ _ _ _ _ us hl => match us, hl with | [_], _ => rfl
  obtain ⟨d_inn, F_inn⟩ := f_inn.get k_inn
  have b_inn := F_inn.binds (ps := ["address"]) fun _ _ _ _ _ _ us hl => match us, hl with | [_], _ => rfl
  obtain ⟨d_ao, F_ao⟩ := f_ao.get k_ao
  have b_ao := F_ao.binds (ps := ["address"]) fun _ _ _ _ _ _ us hl => match us, hl with | [_], _ => rfl
  obtain ⟨d_ro, F_ro⟩ := f_ro.get k_ro
  have b_ro := F_ro.binds (ps := ["address"]) fun _ _ _ _ _ _ us hl => match us, hl with | [_], _ => rfl
  obtain ⟨d_da, F_da⟩ := f_da.get k_da
  have b_da := F_da.binds (ps := ["address"]) fun _ _ _ _ _ _ us hl => match us, hl with | [_], _ => rfl
  obtain ⟨d_fta, F_fta⟩ := f_fta.get k_fta
  have b_fta := F_fta.binds (ps := ["value"]) fun _ _ _ _ _ _ us hl => match us, hl with | [_], _ => rfl
  obtain ⟨d_cc, F_cc⟩ := f_cc.get k_cc
  have b_cc := F_cc.binds (ps := ["value", "argument"]) fun _ _ _ _ _ _ us hl => match us, hl with | [_, _], _ => rfl
  obtain ⟨d_cn, F_cn⟩ := f_cn.get k_cn
  have b_cn := F_cn.binds (ps := ["value"]) fun _ _ _ _ _ _ us hl => match us, hl with | [_], _ => rfl
  obtain ⟨d_ii, F_ii⟩ := f_ii.get k_ii
  have b_ii := F_ii.binds (ps := ["value"]) fun _ _ _ _ _ _ us hl => match us, hl with | [_], _ => rfl
  have bs_sgn : ∀ s, BindsTo s d_sgn ⟨[], []⟩ [] := by
    obtain ⟨oc, od, kV, doc, pm, an, cdv, ct, osl, rfl, _, _⟩ := F_sgn.ex
    exact fun s => .of_eq rfl
  obtain ⟨di0, FI0⟩ := fi0.get ki0
  have bi0 := FI0.binds (ps := ["self", "word"]) fun _ _ _ _ _ _ us hl => match us, hl with | [_, _], _ => rfl
  obtain ⟨de0, FE0⟩ := fe0.get ke0
  have be0 := FE0.binds (ps := ["self", "other"]) fun _ _ _ _ _ _ us hl => match us, hl with | [_, _], _ => rfl
  obtain ⟨di1, FI1⟩ := fi1.get ki1
  have bi1 := FI1.binds (ps := ["self", "word"]) fun _ _ _ _ _ _ us hl => match us, hl with | [_, _], _ => rfl
  obtain ⟨de1, FE1⟩ := fe1.get ke1
  have be1 := FE1.binds (ps := ["self", "other"]) fun _ _ _ _ _ _ us hl => match us, hl with | [_, _], _ => rfl
  obtain ⟨di2, FI2⟩ := fi2.get ki2
  have bi2 := FI2.binds (ps := ["self", "word"]) fun _ _ _ _ _ _ us hl => match us, hl with | [_, _], _ => rfl
  obtain ⟨de2, FE2⟩ := fe2.get ke2
  have be2 := FE2.binds (ps := ["self", "other"]) fun _ _ _ _ _ _ us hl => match us, hl with | [_, _], _ => rfl
  obtain ⟨di3, FI3⟩ := fi3.get ki3
  have bi3 := FI3.binds (ps := ["self", "line"]) fun _ _ _ _ _ _ us hl => match us, hl with | [_, _], _ => rfl
  obtain ⟨de3, FE3⟩ := fe3.get ke3
  have be3 := FE3.binds (ps := ["self", "other"]) fun _ _ _ _ _ _ us hl => match us, hl with | [_, _], _ => rfl
  obtain ⟨di4, FI4⟩ := fi4.get ki4
  have bi4 := FI4.binds (ps := ["self", "letters"]) fun _ _ _ _ _ _ us hl => match us, hl with | [_, _], _ => rfl
  obtain ⟨de4, FE4⟩ := fe4.get ke4
  have be4 := FE4.binds (ps := ["self", "other"]) fun _ _ _ _ _ _ us hl => match us, hl with | [_, _], _ => rfl
  obtain ⟨di5, FI5⟩ := fi5.get ki5
  have bi5 := FI5.binds (ps := ["self", "test"]) fun _ _ _ _ _ _ us hl => match us, hl with | [_, _], _ => rfl
  obtain ⟨de5, FE5⟩ := fe5.get ke5
  have be5 := FE5.binds (ps := ["self", "other"]) fun _ _ _ _ _ _ us hl => match us, hl with | [_, _], _ => rfl
  obtain ⟨di6, FI6⟩ := fi6.get ki6
  have bi6 := FI6.binds (ps := ["self", "one", "other"]) fun _ _ _ _ _ _ us hl => match us, hl with | [_, _, _], _ => rfl
  obtain ⟨de6, FE6⟩ := fe6.get ke6
  have be6 := FE6.binds (ps := ["self", "other"]) fun _ _ _ _ _ _ us hl => match us, hl with | [_, _], _ => rfl
  obtain ⟨di7, FI7⟩ := fi7.get ki7
  have bi7 := FI7.binds (ps := ["self", "one", "other"]) fun _ _ _ _ _ _ us hl => match us, hl with | [_, _, _], _ => rfl
  obtain ⟨de7, FE7⟩ := fe7.get ke7
  have be7 := FE7.binds (ps := ["self", "other"]) fun _ _ _ _ _ _ us hl => match us, hl with | [_, _], _ => rfl
  obtain ⟨de8, FE8⟩ := fe8.get ke8
  have be8 := FE8.binds (ps := ["self", "other"]) fun _ _ _ _ _ _ us hl => match us, hl with | [_, _], _ => rfl
  obtain ⟨di9, FI9⟩ := fi9.get ki9
  have bi9 := FI9.binds (ps := ["self", "number"]) fun _ _ _ _ _ _ us hl => match us, hl with | [_, _], _ => rfl
  have kb9 := XJ.kb_one (pn := "number") FI9 (fun _ _ _ _ _ _ _ _ => rfl)
  obtain ⟨de9, FE9⟩ := fe9.get ke9
  have be9 := FE9.binds (ps := ["self", "other"]) fun _ _ _ _ _ _ us hl => match us, hl with | [_, _], _ => rfl
  obtain ⟨di10, FI10⟩ := fi10.get ki10
  have bi10 := FI10.binds (ps := ["self", "step", "start"]) fun _ _ _ _ _ _ us hl => match us, hl with | [_, _, _], _ => rfl
  have kb10 := XJ.kb_two (p1 := "step") (p2 := "start") FI10 (fun _ _ _ _ _ _ _ _ _ => rfl)
  obtain ⟨de10, FE10⟩ := fe10.get ke10
  have be10 := FE10.binds (ps := ["self", "other"]) fun _ _ _ _ _ _ us hl => match us, hl with | [_, _], _ => rfl
  obtain ⟨de11, FE11⟩ := fe11.get ke11
  have be11 := FE11.binds (ps := ["self", "other"]) fun _ _ _ _ _ _ us hl => match us, hl with | [_, _], _ => rfl
  obtain ⟨di12, FI12⟩ := fi12.get ki12
  have bi12 := FI12.binds (ps := ["self", "test"]) fun _ _ _ _ _ _ us hl => match us, hl with | [_, _], _ => rfl
  have kb12 := XJ.kb_one (pn := "test") FI12 (fun _ _ _ _ _ _ _ _ => rfl)
  obtain ⟨de12, FE12⟩ := fe12.get ke12
  have be12 := FE12.binds (ps := ["self", "other"]) fun _ _ _ _ _ _ us hl => match us, hl with | [_, _], _ => rfl
  obtain ⟨de13, FE13⟩ := fe13.get ke13
  have be13 := FE13.binds (ps := ["self", "other"]) fun _ _ _ _ _ _ us hl => match us, hl with | [_, _], _ => rfl
  obtain ⟨di14, FI14⟩ := fi14.ex
  obtain ⟨de14, FE14⟩ := fe14.get ke14
  have be14 := FE14.binds (ps := ["self", "other"]) fun _ _ _ _ _ _ us hl => match us, hl with | [_, _], _ => rfl
  obtain ⟨di15, FI15⟩ := fi15.get ki15
  have bi15 := FI15.binds (ps := ["self", "address"]) fun _ _ _ _ _ _ us hl => match us, hl with | [_, _], _ => rfl
  have kb15 := XJ.kb_one (pn := "address") FI15 (fun _ _ _ _ _ _ _ _ => rfl)
  obtain ⟨de15, FE15⟩ := fe15.get ke15
  have be15 := FE15.binds (ps := ["self", "other"]) fun _ _ _ _ _ _ us hl => match us, hl with | [_, _], _ => rfl
  obtain ⟨di16, FI16⟩ := fi16.get ki16
  have bi16 := FI16.binds (ps := ["self", "start", "stop"]) fun _ _ _ _ _ _ us hl => match us, hl with | [_, _, _], _ => rfl
  have kb16 := XJ.kb_two (p1 := "start") (p2 := "stop") FI16 (fun _ _ _ _ _ _ _ _ _ => rfl)
  obtain ⟨de16, FE16⟩ := fe16.get ke16
  have be16 := FE16.binds (ps := ["self", "other"]) fun _ _ _ _ _ _ us hl => match us, hl with | [_, _], _ => rfl
  obtain ⟨di17, FI17⟩ := fi17.get ki17
  have bi17 := FI17.binds (ps := ["self", "number"]) fun _ _ _ _ _ _ us hl => match us, hl with | [_, _], _ => rfl
  have kb17 := XJ.kb_one (pn := "number") FI17 (fun _ _ _ _ _ _ _ _ => rfl)
  obtain ⟨de17, FE17⟩ := fe17.get ke17
  have be17 := FE17.binds (ps := ["self", "other"]) fun _ _ _ _ _ _ us hl => match us, hl with | [_, _], _ => rfl
  obtain ⟨dq0, FQ0⟩ := fq0.get kq0
  have bq0 := FQ0.binds (ps := ["self"]) fun _ _ _ _ _ _ us hl => match us, hl with | [_], _ => rfl
  obtain ⟨dq1, FQ1⟩ := fq1.get kq1
  have bq1 := FQ1.binds (ps := ["self"]) fun _ _ _ _ _ _ us hl => match us, hl with | [_], _ => rfl
  obtain ⟨dq2, FQ2⟩ := fq2.get kq2
  have bq2 := FQ2.binds (ps := ["self"]) fun _ _ _ _ _ _ us hl => match us, hl with | [_], _ => rfl
  obtain ⟨dq3, FQ3⟩ := fq3.get kq3
  have bq3 := FQ3.binds (ps := ["self"]) fun _ _ _ _ _ _ us hl => match us, hl with | [_], _ => rfl
  obtain ⟨dq4, FQ4⟩ := fq4.get kq4
  have bq4 := FQ4.binds (ps := ["self"]) fun _ _ _ _ _ _ us hl => match us, hl with | [_], _ => rfl
  obtain ⟨dq5, FQ5⟩ := fq5.get kq5
  have bq5 := FQ5.binds (ps := ["self"]) fun _ _ _ _ _ _ us hl => match us, hl with | [_], _ => rfl
  obtain ⟨dq6, FQ6⟩ := fq6.get kq6
  have bq6 := FQ6.binds (ps := ["self"]) fun _ _ _ _ _ _ us hl => match us, hl with | [_], _ => rfl
  obtain ⟨dq7, FQ7⟩ := fq7.get kq7
  have bq7 := FQ7.binds (ps := ["self"]) fun _ _ _ _ _ _ us hl => match us, hl with | [_], _ => rfl
  obtain ⟨dq8, FQ8⟩ := fq8.get kq8
  have bq8 := FQ8.binds (ps := ["self"]) fun _ _ _ _ _ _ us hl => match us, hl with | [_], _ => rfl
  obtain ⟨dq9, FQ9⟩ := fq9.get kq9
  have bq9 := FQ9.binds (ps := ["self"]) fun _ _ _ _ _ _ us hl => match us, hl with | [_], _ => rfl
  obtain ⟨dq10, FQ10⟩ := fq10.get kq10
  have bq10 := FQ10.binds (ps := ["self"]) fun _ _ _ _ _ _ us hl => match us, hl with | [_], _ => rfl
  obtain ⟨dq11, FQ11⟩ := fq11.get kq11
  have bq11 := FQ11.binds (ps := ["self"]) fun _ _ _ _ _ _ us hl => match us, hl with | [_], _ => rfl
  obtain ⟨dq12, FQ12⟩ := fq12.get kq12
  have bq12 := FQ12.binds (ps := ["self"]) fun _ _ _ _ _ _ us hl => match us, hl with | [_], _ => rfl
  obtain ⟨dq13, FQ13⟩ := fq13.get kq13
  have bq13 := FQ13.binds (ps := ["self"]) fun _ _ _ _ _ _ us hl => match us, hl with | [_], _ => rfl
  obtain ⟨dX, FX⟩ := er_f.get er_k
  have bX := FX.binds (ps := ["self", "argument"]) fun _ _ _ _ _ _ us hl => match us, hl with | [_, _], _ => rfl
  obtain ⟨dY, FY⟩ := ea_f.get ea_k
  have bY := FY.binds (ps := ["self", "argument"]) fun _ _ _ _ _ _ us hl => match us, hl with | [_, _], _ => rfl
  obtain ⟨oc_nr, od_nr, kV_nr, dc_nr, pm_nr, an_nr, ct_nr, sl_nr, l_nr, cd_nr⟩ := f_nr.ex
  have FC_nr : FunC K "_law_numbers_right" "_law_numbers_right" sNmR a_nr (fnOf "_law_numbers_right" "_law_numbers_right" (defArgs sNmR) (defBody sNmR) (defScope sNmR) .none kV_nr dc_nr pm_nr an_nr (.ref c_nr) ct_nr) c_nr := ⟨⟨oc_nr, od_nr, kV_nr, dc_nr, pm_nr, an_nr, ct_nr, sl_nr, rfl, l_nr, cd_nr⟩⟩
  have b_nr := (fun_mk (st := sNmR) l_nr cd_nr k_nr).binds (ps := ["_law_pen_here"]) fun _ _ _ _ _ _ us hl => match us, hl with | [_], _ => rfl
  obtain ⟨oc_tr, od_tr, kV_tr, dc_tr, pm_tr, an_tr, ct_tr, sl_tr, l_tr, cd_tr⟩ := f_tr.ex
  have FC_tr : FunC K "_law_tests_right" "_law_tests_right" sTsR a_tr (fnOf "_law_tests_right" "_law_tests_right" (defArgs sTsR) (defBody sTsR) (defScope sTsR) .none kV_tr dc_tr pm_tr an_tr (.ref c_tr) ct_tr) c_tr := ⟨⟨oc_tr, od_tr, kV_tr, dc_tr, pm_tr, an_tr, ct_tr, sl_tr, rfl, l_tr, cd_tr⟩⟩
  have b_tr := (fun_mk (st := sTsR) l_tr cd_tr k_tr).binds (ps := ["_law_pen_here", "_law_signs_here"]) fun _ _ _ _ _ _ us hl => match us, hl with | [_, _], _ => rfl
  obtain ⟨oc_dr, od_dr, kV_dr, dc_dr, pm_dr, an_dr, ct_dr, sl_dr, l_dr, cd_dr⟩ := f_dr.ex
  have FC_dr : FunC K "_law_deep_right" "_law_deep_right" sDpR a_dr (fnOf "_law_deep_right" "_law_deep_right" (defArgs sDpR) (defBody sDpR) (defScope sDpR) .none kV_dr dc_dr pm_dr an_dr (.ref c_dr) ct_dr) c_dr := ⟨⟨oc_dr, od_dr, kV_dr, dc_dr, pm_dr, an_dr, ct_dr, sl_dr, rfl, l_dr, cd_dr⟩⟩
  have b_dr := (fun_mk (st := sDpR) l_dr cd_dr k_dr).binds (ps := ["_law_pen_here", "_law_signs_here"]) fun _ _ _ _ _ _ us hl => match us, hl with | [_, _], _ => rfl
  obtain ⟨oc_rr, od_rr, kV_rr, dc_rr, pm_rr, an_rr, ct_rr, sl_rr, l_rr, cd_rr⟩ := f_rr.ex
  have FC_rr : FunC K "_law_ranges_right" "_law_ranges_right" sRgR a_rr (fnOf "_law_ranges_right" "_law_ranges_right" (defArgs sRgR) (defBody sRgR) (defScope sRgR) .none kV_rr dc_rr pm_rr an_rr (.ref c_rr) ct_rr) c_rr := ⟨⟨oc_rr, od_rr, kV_rr, dc_rr, pm_rr, an_rr, ct_rr, sl_rr, rfl, l_rr, cd_rr⟩⟩
  have b_rr := (fun_mk (st := sRgR) l_rr cd_rr k_rr).binds (ps := ["_law_pen_here", "_law_signs_here"]) fun _ _ _ _ _ _ us hl => match us, hl with | [_, _], _ => rfl
  obtain ⟨oc_law, od_law, kV_law, dc_law, pm_law, an_law, ct_law, sl_law, l_law, cd_law⟩ := f_law.ex
  have FC_law : FunC K "law" "law" sLaw fa (fnOf "law" "law" (defArgs sLaw) (defBody sLaw) (defScope sLaw) .none kV_law dc_law pm_law an_law (.ref c_law) ct_law) c_law := ⟨⟨oc_law, od_law, kV_law, dc_law, pm_law, an_law, ct_law, sl_law, rfl, l_law, cd_law⟩⟩
  obtain ⟨P_nr, P_tr, P_dr, P_rr, ta1, ta2, ta3, ta4, n12, n13, n14, n23, n24, n34⟩ := apart4 apt
  obtain ⟨e1, d1, vs1, s1, hp1, hv1⟩ := ta1.ex
  obtain ⟨tab1, code1⟩ := XJ.tab_one X tb1 (mg_of X G g_nr) l_nr rfl hp1 hv1
  obtain ⟨e2, d2, vs2, s2, hp2, hv2⟩ := ta2.ex
  obtain ⟨tab2, code2⟩ := XJ.tab_one X tb2 (mg_of X G g_tr) l_tr rfl hp2 hv2
  obtain ⟨e3, d3, vs3, s3, hp3, hv3⟩ := ta3.ex
  obtain ⟨tab3, code3⟩ := XJ.tab_one X tb3 (mg_of X G g_dr) l_dr rfl hp3 hv3
  obtain ⟨e4, d4, vs4, s4, hp4, hv4⟩ := ta4.ex
  obtain ⟨tab4, code4⟩ := XJ.tab_one X tb4 (mg_of X G g_rr) l_rr rfl hp4 hv4
  have L0 : PkT mg t0 t1 t2 t3 := ⟨mg_none_of X G z_len, mg_none_of X G z_set, mg_none_of X G z_all, mg_none_of X G z_ord, mg_none_of X G z_isinstance, mg_none_of X G z_str, mg_of X G y0, mg_of X G y1, mg_of X G y2, mg_of X G y3⟩
  have T0 : Txt mg := ⟨mg_none_of X G z_len, mg_none_of X G z_int, mg_none_of X G z_list, mg_none_of X G z_abs⟩
  have mR := mg_none_of X G z_range
  obtain ⟨C, hC⟩ : ∃ C : Nat → Addr, C = (n18 C0 C1 C2 C3 C4 C5 C6 C7 C8 C9 C10 C11 C12 C13 C14 C15 C16 C17) := ⟨_, rfl⟩
  have hc0 : C 0 = C0 := by rw [hC]; rfl
  have hc1 : C 1 = C1 := by rw [hC]; rfl
  have hc2 : C 2 = C2 := by rw [hC]; rfl
  have hc3 : C 3 = C3 := by rw [hC]; rfl
  have hc4 : C 4 = C4 := by rw [hC]; rfl
  have hc5 : C 5 = C5 := by rw [hC]; rfl
  have hc6 : C 6 = C6 := by rw [hC]; rfl
  have hc7 : C 7 = C7 := by rw [hC]; rfl
  have hc8 : C 8 = C8 := by rw [hC]; rfl
  have hc9 : C 9 = C9 := by rw [hC]; rfl
  have hc10 : C 10 = C10 := by rw [hC]; rfl
  have hc11 : C 11 = C11 := by rw [hC]; rfl
  have hc12 : C 12 = C12 := by rw [hC]; rfl
  have hc13 : C 13 = C13 := by rw [hC]; rfl
  have hc14 : C 14 = C14 := by rw [hC]; rfl
  have hc15 : C 15 = C15 := by rw [hC]; rfl
  have hc16 : C 16 = C16 := by rw [hC]; rfl
  have hc17 : C 17 = C17 := by rw [hC]; rfl
  rw [← hC] at kts kta out
  have hC0 := hc0.symm
  have hC1 := hc1.symm
  have hC2 := hc2.symm
  have hC3 := hc3.symm
  have hC4 := hc4.symm
  have hC5 := hc5.symm
  have hC6 := hc6.symm
  have hC7 := hc7.symm
  have hC8 := hc8.symm
  have hC9 := hc9.symm
  have hC10 := hc10.symm
  have hC11 := hc11.symm
  have hC12 := hc12.symm
  have hC13 := hc13.symm
  have hC14 := hc14.symm
  have hC15 := hc15.symm
  have hC16 := hc16.symm
  have hC17 := hc17.symm
  subst hC0 hC1 hC2 hC3 hC4 hC5 hC6 hC7 hC8 hC9 hC10 hC11 hC12 hC13 hC14 hC15 hC16 hC17
  clear hC
  have N0 : NamT mg C := ⟨mg_none_of X G z_isinstance, mg_of X G gc0, mg_of X G gc1, mg_of X G gc2, mg_of X G gc3, mg_of X G gc4, mg_of X G gc5, mg_of X G gc6, mg_of X G gc7⟩
  have NA : NamA mg C CA := ⟨mg_none_of X G z_isinstance, mg_of X G gCA, mg_of X G gc8, mg_of X G gc9, mg_of X G gc10, mg_of X G gc11, mg_of X G gc12, mg_of X G gc13, mg_of X G gc14, mg_of X G gc15, mg_of X G gc16, mg_of X G gc17⟩
  have k0 : KC K C := ⟨fun i hi => match i, hi with | 0, _ => cl0 | 1, _ => cl1 | 2, _ => cl2 | 3, _ => cl3 | 4, _ => cl4 | 5, _ => cl5 | 6, _ => cl6 | 7, _ => cl7 | (n + 8), h => absurd h (by omega), fun i hi => match i, hi with | 0, _ => ca0 | 1, _ => ca1 | 2, _ => ca2 | 3, _ => ca3 | 4, _ => ca4 | 5, _ => ca5 | 6, _ => ca6 | 7, _ => ca7 | (n + 8), h => absurd h (by omega), cg, ct, fun i hi => match i, hi with | 0, _ => ob0 | 1, _ => ob1 | 2, _ => ob2 | 3, _ => ob3 | 4, _ => ob4 | 5, _ => ob5 | 6, _ => ob6 | 7, _ => ob7 | (n + 8), h => absurd h (by omega), fun i j hi hj => kits_at kts i j (Nat.lt_trans hi (by decide)) (Nat.lt_trans hj (by decide))⟩
  have cld : ∀ i, 8 ≤ i → i < 18 → Cled K (C i) := fun i l h => by
    rcases (by omega : i = 8 ∨ i = 9 ∨ i = 10 ∨ i = 11 ∨ i = 12 ∨ i = 13 ∨ i = 14 ∨ i = 15 ∨ i = 16 ∨ i = 17) with rfl | rfl | rfl | rfl | rfl | rfl | rfl | rfl | rfl | rfl
    · exact ⟨cl8, ca8, cg, ct, ob8⟩
    · exact ⟨cl9, ca9, cg, ct, ob9⟩
    · exact ⟨cl10, ca10, cg, ct, ob10⟩
    · exact ⟨cl11, ca11, cg, ct, ob11⟩
    · exact ⟨cl12, ca12, cg, ct, ob12⟩
    · exact ⟨cl13, ca13, cg, ct, ob13⟩
    · exact ⟨cl14, ca14, cg, ct, ob14⟩
    · exact ⟨cl15, ca15, cg, ct, ob15⟩
    · exact ⟨cl16, ca16, cg, ct, ob16⟩
    · exact ⟨cl17, ca17, cg, ct, ob17⟩
  have nms : ∀ i, 8 ≤ i → i ≤ 16 → ∃ nm, Named K (C i) nm ∧ decide (V.str nm = V.str "Address") = false := fun i l h => by
    rcases (by omega : i = 8 ∨ i = 9 ∨ i = 10 ∨ i = 11 ∨ i = 12 ∨ i = 13 ∨ i = 14 ∨ i = 15 ∨ i = 16) with rfl | rfl | rfl | rfl | rfl | rfl | rfl | rfl | rfl
    · exact ⟨_, nm8, by decide +kernel⟩
    · exact ⟨_, nm9, by decide +kernel⟩
    · exact ⟨_, nm10, by decide +kernel⟩
    · exact ⟨_, nm11, by decide +kernel⟩
    · exact ⟨_, nm12, by decide +kernel⟩
    · exact ⟨_, nm13, by decide +kernel⟩
    · exact ⟨_, nm14, by decide +kernel⟩
    · exact ⟨_, nm15, by decide +kernel⟩
    · exact ⟨_, nm16, by decide +kernel⟩
  have kA : KA K C CA := ⟨k0, cld, kits_at kts, kitA_at kta, nms⟩
  have O := outs_at out
  refine ⟨(fnOf "law" "law" (defArgs sLaw) (defBody sLaw) (defScope sLaw) .none kV_law dc_law pm_law an_law (.ref c_law) ct_law), [(c_nr, P_nr), (c_tr, P_tr), (c_dr, P_dr), (c_rr, P_rr)], spLaw K [(P_nr, lamQ "_law_numbers_right" sNmR), (P_tr, lamQ "_law_tests_right" sTsR), (P_dr, lamQ "_law_deep_right" sDpR), (P_rr, lamQ "_law_ranges_right" sRgR)], ?_, ?_, ?_, fun s v => .of_eq rfl, ?_, fun base _ _ TB => ?_⟩
  · intro q hq
    simp only [List.mem_cons, List.not_mem_nil, or_false] at hq
    rcases hq with rfl | rfl | rfl | rfl
    · exact tab1
    · exact tab2
    · exact tab3
    · exact tab4
  · intro q hq
    simp only [List.mem_cons, List.not_mem_nil, or_false] at hq
    rcases hq with rfl | rfl | rfl | rfl
    · exact ta1.no
    · exact ta2.no
    · exact ta3.no
    · exact ta4.no
  · intro q hq
    simp only [List.mem_cons, List.not_mem_nil, or_false] at hq
    rcases hq with rfl | rfl | rfl | rfl
    · exact code1
    · exact code2
    · exact code3
    · exact code4
  · intro H a ns hl hT hS
    exact ⟨a, ns, rfl, hS, hl, tabs_new (hT (c_nr, P_nr) (by simp)) (hT (c_tr, P_tr) (by simp)) (hT (c_dr, P_dr) (by simp)) (hT (c_rr, P_rr) (by simp)), fun _ => rfl⟩
  have TB1 : TabB base mg c_nr P_nr := TB (c_nr, P_nr) (by simp)
  have TB2 : TabB base mg c_tr P_tr := TB (c_tr, P_tr) (by simp)
  have TB3 : TabB base mg c_dr P_dr := TB (c_dr, P_dr) (by simp)
  have TB4 : TabB base mg c_rr P_rr := TB (c_rr, P_rr) (by simp)
  obtain ⟨T, hT⟩ : ∃ T, T = [(P_nr, lamQ "_law_numbers_right" sNmR), (P_tr, lamQ "_law_tests_right" sTsR), (P_dr, lamQ "_law_deep_right" sDpR), (P_rr, lamQ "_law_ranges_right" sRgR)] := ⟨_, rfl⟩
  have in1 : (P_nr, lamQ "_law_numbers_right" sNmR) ∈ T := by rw [hT]; simp
  have one1 : ∀ q ∈ T, q.1 = P_nr → q.2 = lamQ "_law_numbers_right" sNmR := by
    rw [hT]
    intro q hq e
    simp only [List.mem_cons, List.not_mem_nil, or_false] at hq
    rcases hq with rfl | rfl | rfl | rfl
    · rfl
    · exact absurd e.symm n12
    · exact absurd e.symm n13
    · exact absurd e.symm n14
  have in2 : (P_tr, lamQ "_law_tests_right" sTsR) ∈ T := by rw [hT]; simp
  have one2 : ∀ q ∈ T, q.1 = P_tr → q.2 = lamQ "_law_tests_right" sTsR := by
    rw [hT]
    intro q hq e
    simp only [List.mem_cons, List.not_mem_nil, or_false] at hq
    rcases hq with rfl | rfl | rfl | rfl
    · exact absurd e n12
    · rfl
    · exact absurd e.symm n23
    · exact absurd e.symm n24
  have in3 : (P_dr, lamQ "_law_deep_right" sDpR) ∈ T := by rw [hT]; simp
  have one3 : ∀ q ∈ T, q.1 = P_dr → q.2 = lamQ "_law_deep_right" sDpR := by
    rw [hT]
    intro q hq e
    simp only [List.mem_cons, List.not_mem_nil, or_false] at hq
    rcases hq with rfl | rfl | rfl | rfl
    · exact absurd e n13
    · exact absurd e n23
    · rfl
    · exact absurd e.symm n34
  have in4 : (P_rr, lamQ "_law_ranges_right" sRgR) ∈ T := by rw [hT]; simp
  have one4 : ∀ q ∈ T, q.1 = P_rr → q.2 = lamQ "_law_ranges_right" sRgR := by
    rw [hT]
    intro q hq e
    simp only [List.mem_cons, List.not_mem_nil, or_false] at hq
    rcases hq with rfl | rfl | rfl | rfl
    · exact absurd e n14
    · exact absurd e n24
    · exact absurd e n34
    · rfl
  rw [← hT]
  have o_draw := ok_draw (P := l.prog) (w := w) (base := base) F_draw T0
  have cDr : Draws l.prog w K mg base a_draw d_draw := ⟨o_draw, mg_of X G g_draw, k_draw, b_draw⟩
  have cP : PickAt l.prog w K mg base a_pick d_pick := ⟨ok_pick F_pick T0 o_draw (mg_of X G g_draw) k_draw b_draw, mg_of X G g_pick, k_pick, b_pick⟩
  have c_pen : CallOf l.prog w K mg base 1 "_law_pen" ["_law_script"] (spPen K) a_pen d_pen := ⟨ok_pen F_pen T0, mg_of X G g_pen, k_pen, b_pen⟩
  have c_inl : CallOf l.prog w K mg base 1 "_law_is_number" ["_law_thing", "_law_low", "_law_high"] spNum a_inl d_inl := ⟨ok_isNumL F_inl (mg_none_of X G z_isinstance) (mg_none_of X G z_int) (mg_none_of X G z_bool), mg_of X G g_inl, k_inl, b_inl⟩
  have c_few : CallOf l.prog w K mg base 3 "_law_few" ["_law_pen_here"] spFew a_few d_few := ⟨ok_few F_few T0 mR cP F_sgn bs_sgn (mg_of X G g_sgn), mg_of X G g_few, k_few, b_few⟩
  have c_row : CallOf l.prog w K mg base 3 "_law_row" ["_law_pen_here", "_law_signs_here", "_law_least", "_law_most_letters"] spRow a_row d_row := ⟨ok_row F_row T0 mR cP o_draw (mg_of X G g_draw) k_draw b_draw, mg_of X G g_row, k_row, b_row⟩
  have c_any : CallOf l.prog w K mg base 3 "_law_any_value" ["_law_pen_here"] spAny a_any d_any := ⟨ok_any F_any cP, mg_of X G g_any, k_any, b_any⟩
  have o_go := ok_goal (P := l.prog) (w := w) (base := base) F_go cDr cP c_row (mg_of X G g_go) k_go b_go
  have c_go : CallOf l.prog w K mg base 5 "_law_goal" ["_law_pen_here", "_law_signs_here", "_law_wide", "_law_deep"] spG2 a_go d_go := ⟨fn_or ((o_go 0).mono (by decide)) (o_go 1), mg_of X G g_go, k_go, b_go⟩
  have c_gw : CallOf l.prog w K mg base 3 "_law_goal_words" ["_law_goal_here"] (spGW 2) a_gw d_gw := ⟨ok_GW F_gw (mg_none_of X G z_sum) (mg_of X G g_gw) k_gw b_gw 2, mg_of X G g_gw, k_gw, b_gw⟩
  have c_gd : CallOf l.prog w K mg base 6 "_law_goal_drawn" ["_law_pen_here", "_law_signs_here", "_law_left"] spGD a_gd d_gd := ⟨ok_GD F_gd c_go cP c_gw, mg_of X G g_gd, k_gd, b_gd⟩
  have c_sp : CallOf l.prog w K mg base 7 "_law_spot" ["_law_pen_here", "_law_signs_here", "_law_left", "_law_deep"] spSpo a_sp d_sp := ⟨ok_Spo F_sp cDr c_gd, mg_of X G g_sp, k_sp, b_sp⟩
  have c_bu : CallOf l.prog w K mg base 1 "_law_budget" ["_law_is_tight"] spBud a_bu d_bu := ⟨ok_Bud F_bu, mg_of X G g_bu, k_bu, b_bu⟩
  have c_le : CallOf l.prog w K mg base 1 "is_letter" ["character"] spLetter a_le d_le := ⟨ok_letter F_le L0, mg_of X G g_le, k_le, b_le⟩
  have c_li : CallOf l.prog w K mg base 2 "is_line" ["value"] (spLine K) a_li d_li := ⟨ok_line F_li L0 c_le, mg_of X G g_li, k_li, b_li⟩
  have c_liA : CallOf l.prog w K mg base 2 "is_line" ["value"] (spAny1 K lineB) a_li d_li := ⟨ask_any (b := lineB) c_li.ok, mg_of X G g_li, k_li, b_li⟩
  have c_wo : CallOf l.prog w K mg base 3 "is_word" ["value"] (spAsk K wordB) a_wo d_wo := ⟨ok_word F_wo c_li, mg_of X G g_wo, k_wo, b_wo⟩
  have c_sh : CallOf l.prog w K mg base 4 "is_short_word" ["value"] (spAsk K shortB) a_sh d_sh := ⟨ok_short F_sh L0 c_wo, mg_of X G g_sh, k_sh, b_sh⟩
  have c_shA : CallOf l.prog w K mg base 4 "is_short_word" ["value"] (spAny1 K shortB) a_sh d_sh := ⟨ask_any c_sh.ok, mg_of X G g_sh, k_sh, b_sh⟩
  have c_di : CallOf l.prog w K mg base 1 "are_different" ["line"] spDiffT a_di d_di := ⟨ok_diff F_di L0, mg_of X G g_di, k_di, b_di⟩
  have EA : ErrAt l.prog w K mg base DT DTI dX := ⟨er.oex, er_no, er_i, er_ty, ok_XI FX, bX, mg_of X G er.ns⟩
  have ED : ErrAd l.prog w K mg base DA DAI dY := ⟨ea.oex, ea_no, ea_i, ea_ty, ok_XA FY, bY, mg_of X G ea.ns⟩
  have c_cw : CallX l.prog w K mg base 5 "check_word" ["word"] (spChkW K DT) a_cw d_cw := ⟨ok_chkW F_cw EA c_shA, mg_of X G g_cw, k_cw, b_cw⟩
  have r0 : PropAt l.prog w K mg base (C 5) "test" "_test" P0 Q0 dq0 := ⟨pr0, ok_GFtest FQ0 cl5 no5a, bq0⟩
  have r1 : PropAt l.prog w K mg base (C 6) "one" "_one" P1 Q1 dq1 := ⟨pr1, ok_GBone FQ1 cl6 no6a, bq1⟩
  have r2 : PropAt l.prog w K mg base (C 6) "other" "_other" P2 Q2 dq2 := ⟨pr2, ok_GBother FQ2 cl6 no6b, bq2⟩
  have r3 : PropAt l.prog w K mg base (C 7) "one" "_one" P3 Q3 dq3 := ⟨pr3, ok_GEone FQ3 cl7 no7a, bq3⟩
  have r4 : PropAt l.prog w K mg base (C 7) "other" "_other" P4 Q4 dq4 := ⟨pr4, ok_GEother FQ4 cl7 no7b, bq4⟩
  have r5 : PropAt l.prog w K mg base (C 9) "number" "_number" P5 Q5 dq5 := ⟨pr5, ok_PNum FQ5 cl9 no9a, bq5⟩
  have r6 : PropAt l.prog w K mg base (C 10) "step" "_step" P6 Q6 dq6 := ⟨pr6, ok_PStep FQ6 cl10 no10a, bq6⟩
  have r7 : PropAt l.prog w K mg base (C 10) "start" "_start" P7 Q7 dq7 := ⟨pr7, ok_PStartE FQ7 cl10 no10b, bq7⟩
  have r8 : PropAt l.prog w K mg base (C 12) "test" "_test" P8 Q8 dq8 := ⟨pr8, ok_PIf FQ8 cl12 no12a, bq8⟩
  have r9 : PropAt l.prog w K mg base (C 14) "test" "_test" P9 Q9 dq9 := ⟨pr9, ok_PKept FQ9 cl14 no14a, bq9⟩
  have r10 : PropAt l.prog w K mg base (C 15) "address" "_address" P10 Q10 dq10 := ⟨pr10, ok_PNot FQ10 cl15 no15a, bq10⟩
  have r11 : PropAt l.prog w K mg base (C 16) "start" "_start" P11 Q11 dq11 := ⟨pr11, ok_PStart FQ11 cl16 no16a, bq11⟩
  have r12 : PropAt l.prog w K mg base (C 16) "stop" "_stop" P12 Q12 dq12 := ⟨pr12, ok_PStop FQ12 cl16 no16b, bq12⟩
  have r13 : PropAt l.prog w K mg base (C 17) "number" "_number" P13 Q13 dq13 := ⟨pr13, ok_PCount FQ13 cl17 no17a, bq13⟩
  have gt : GetT l.prog w K mg base C (n5 P0 P1 P2 P3 P4) (n5 Q0 Q1 Q2 Q3 Q4) (n5 dq0 dq1 dq2 dq3 dq4) := ⟨r0, r1, r2, r3, r4⟩
  have gA : GetA l.prog w K mg base C (n5 P10 P11 P12 P12 P12) (n5 Q10 Q11 Q12 Q12 Q12) (n5 dq10 dq11 dq12 dq12 dq12) := ⟨r10, r11, r12⟩
  have gX : GetX l.prog w K mg base C (n9 P5 P6 P7 P8 P9 P10 P11 P12 P13) (n9 Q5 Q6 Q7 Q8 Q9 Q10 Q11 Q12 Q13) (n9 dq5 dq6 dq7 dq8 dq9 dq10 dq11 dq12 dq13) := ⟨r5, r6, r7, r8, r9, r10, r11, r12, r13⟩
  have c_pa : CallOf l.prog w K mg base 3 "parts" ["test"] (spParts C) a_pa d_pa := ⟨ok_parts F_pa N0 k0 gt, mg_of X G g_pa, k_pa, b_pa⟩
  have c_de : CallOf l.prog w K mg base 11 "depth_of_conditions" ["test"] (spDepth C 8) a_de d_de := ⟨ok_depth F_de (mg_none_of X G z_max) (mg_of X G g_de) k_de b_de c_pa 8, mg_of X G g_de, k_de, b_de⟩
  have c_it : CallOf l.prog w K mg base 1 "is_test" ["value"] (spIsT C) a_it d_it := ⟨ok_isT F_it N0 k0, mg_of X G g_it, k_it, b_it⟩
  have c_it2 : CallOf l.prog w K mg base 1 "is_test" ["value"] (spIsT2 C) a_it d_it := ⟨ok_isT2 F_it N0 kA, mg_of X G g_it, k_it, b_it⟩
  have c_fi : CallOf l.prog w K mg base 12 "fits_within_conditions" ["value"] (spFits C) a_fi d_fi := ⟨ok_fits F_fi (mg_of X G y5) c_it c_de, mg_of X G g_fi, k_fi, b_fi⟩
  have c_si : CallOf l.prog w K mg base 11 "simple_tests" ["test"] (spSimple C 8) a_si d_si := ⟨ok_simple F_si (mg_of X G g_si) k_si b_si c_pa 8, mg_of X G g_si, k_si, b_si⟩
  have c_ft : CallOf l.prog w K mg base 12 "fit_together" ["one", "other"] (spFitT C) a_ft d_ft := ⟨ok_fitT F_ft (mg_none_of X G z_len) (mg_of X G y6) c_si, mg_of X G g_ft, k_ft, b_ft⟩
  have c_cp : CallX l.prog w K mg base 13 "check_pair" ["one", "other"] (spChkP C DT) a_cp d_cp := ⟨ok_chkP F_cp EA c_fi c_ft, mg_of X G g_cp, k_cp, b_cp⟩
  have MT : Makers l.prog w K mg base C (n18 I0 I1 I2 I3 I4 I5 I6 I7 I7 I7 I7 I7 I7 I7 I7 I7 I7 I7) (n18 di0 di1 di2 di3 di4 di5 di6 di7 di7 di7 di7 di7 di7 di7 di7 di7 di7 di7) := ⟨⟨mk0, fn_imp (ok_IHas FI0 ⟨cl0, no0a⟩ c_cw) (imp_1 (fun z h => short_len h)), bi0⟩, ⟨mk1, fn_imp (ok_IBegins FI1 ⟨cl1, no1a⟩ c_cw) (imp_1 (fun z h => short_len h)), bi1⟩, ⟨mk2, fn_imp (ok_IEnds FI2 ⟨cl2, no2a⟩ c_cw) (imp_1 (fun z h => short_len h)), bi2⟩, ⟨mk3, fn_imp (ok_IIs FI3 ⟨cl3, no3a⟩ L0 (mg_of X G y4) EA c_liA) (imp_1 (fun z h => ⟨by unfold isB; rw [h.1, decide_eq_true h.2]; rfl, Nat.lt_of_le_of_lt h.2 (by decide)⟩)), bi3⟩, ⟨mk4, fn_imp (ok_IOn FI4 ⟨cl4, no4a⟩ EA c_liA c_di) (imp_1 (fun z h => ⟨by unfold onB; rw [h.1, decide_eq_true h.2.1]; rfl, h.2.2⟩)), bi4⟩, ⟨mk5, fn_imp (ok_IFa (C := C) FI5 ⟨cl5, no5a⟩ EA c_fi) imp_G, bi5⟩, ⟨mk6, fn_imp (ok_IBoth (C := C) FI6 ⟨cl6, no6a, no6b⟩ c_cp) imp_D, bi6⟩, ⟨mk7, fn_imp (ok_IEither (C := C) FI7 ⟨cl7, no7a, no7b⟩ c_cp) imp_D, bi7⟩⟩
  have c_mgo : CallOf l.prog w K mg base 18 "_law_made_goal" ["_law_goal_here"] (spMG C 2) a_mgo d_mgo := ⟨ok_MG F_mgo N0 MT (mg_of X G g_mgo) k_mgo b_mgo 2, mg_of X G g_mgo, k_mgo, b_mgo⟩
  have c_ii : CallOf l.prog w K mg base 1 "is_integer" ["value"] (spQ isI) a_ii d_ii := ⟨ok_isInt F_ii (mg_none_of X G z_isinstance) (mg_none_of X G z_int) (mg_none_of X G z_bool), mg_of X G g_ii, k_ii, b_ii⟩
  have c_cn : CallOf l.prog w K mg base 2 "is_counting" ["value"] (spQ cntD) a_cn d_cn := ⟨ok_counting F_cn c_ii, mg_of X G g_cn, k_cn, b_cn⟩
  have c_cc : CallX l.prog w K mg base 4 "check_counting" ["value", "argument"] (spCC DA) a_cc d_cc := ⟨ok_cc F_cc ED c_cn, mg_of X G g_cc, k_cc, b_cc⟩
  have c_ia : CallOf l.prog w K mg base 1 "is_address" ["value"] (spIsA C) a_ia d_ia := ⟨ok_isA F_ia NA kA, mg_of X G g_ia, k_ia, b_ia⟩
  have c_inn : CallOf l.prog w K mg base 3 "inner" ["address"] (spInner C) a_inn d_inn := ⟨ok_inner F_inn NA kA gA c_ia, mg_of X G g_inn, k_inn, b_inn⟩
  have c_da : CallOf l.prog w K mg base 11 "depth_of_scripts" ["address"] (spDepA C 8) a_da d_da := ⟨ok_depA F_da (mg_none_of X G z_max) (mg_of X G g_da) k_da b_da c_inn 8, mg_of X G g_da, k_da, b_da⟩
  have c_fta : CallOf l.prog w K mg base 12 "fits_within_scripts" ["value"] (spFitA C) a_fta d_fta := ⟨ok_fitA F_fta (mg_of X G y5) c_ia c_da, mg_of X G g_fta, k_fta, b_fta⟩
  have c_ao : CallOf l.prog w K mg base 11 "addresses_of" ["address"] (spAof C 8) a_ao d_ao := ⟨ok_aof F_ao (mg_of X G g_ao) k_ao b_ao c_inn 8, mg_of X G g_ao, k_ao, b_ao⟩
  have c_ro : CallOf l.prog w K mg base 12 "ranges_of" ["address"] (spRof C) a_ro d_ro := ⟨ok_rof F_ro NA kA c_ao, mg_of X G g_ro, k_ro, b_ro⟩
  have q0 : FnOk l.prog w K mg base CX0 1 E0 de0 ["self", "other"] (spEqT C 0) := ok_QHas FE0 N0 k0 ⟨cl0, no0a⟩
  have q1 : FnOk l.prog w K mg base CX0 1 E1 de1 ["self", "other"] (spEqT C 1) := ok_QBegins FE1 N0 k0 ⟨cl1, no1a⟩
  have q2 : FnOk l.prog w K mg base CX0 1 E2 de2 ["self", "other"] (spEqT C 2) := ok_QEnds FE2 N0 k0 ⟨cl2, no2a⟩
  have q3 : FnOk l.prog w K mg base CX0 1 E3 de3 ["self", "other"] (spEqT C 3) := ok_QIs FE3 N0 k0 ⟨cl3, no3a⟩
  have q4 : FnOk l.prog w K mg base CX0 1 E4 de4 ["self", "other"] (spEqT C 4) := ok_QOn FE4 N0 k0 ⟨cl4, no4a⟩
  have Q1 : ∀ i, i < 5 → EqAt l.prog w K mg base C 1 i ((n18 E0 E1 E2 E3 E4 E5 E6 E7 E8 E9 E10 E11 E12 E13 E14 E15 E16 E17) i) ((n18 de0 de1 de2 de3 de4 de5 de6 de7 de8 de9 de10 de11 de12 de13 de14 de15 de16 de17) i) := fun i hi => match i, hi with | 0, _ => ⟨q0, eq0, ie0, be0, ne0⟩ | 1, _ => ⟨q1, eq1, ie1, be1, ne1⟩ | 2, _ => ⟨q2, eq2, ie2, be2, ne2⟩ | 3, _ => ⟨q3, eq3, ie3, be3, ne3⟩ | 4, _ => ⟨q4, eq4, ie4, be4, ne4⟩ | (n + 5), h => absurd h (by omega)
  have q5 : FnOk l.prog w K mg base CX0 2 E5 de5 ["self", "other"] (spEqT C 5) := ok_QFails FE5 N0 k0 ⟨cl5, no5a⟩ Q1
  have q6 : FnOk l.prog w K mg base CX0 2 E6 de6 ["self", "other"] (spEqT C 6) := ok_QBoth FE6 N0 k0 ⟨cl6, no6a, no6b⟩ Q1
  have q7 : FnOk l.prog w K mg base CX0 2 E7 de7 ["self", "other"] (spEqT C 7) := ok_QEither FE7 N0 k0 ⟨cl7, no7a, no7b⟩ Q1
  have ET : ∀ i, i < 8 → EqAt l.prog w K mg base C 2 i ((n18 E0 E1 E2 E3 E4 E5 E6 E7 E8 E9 E10 E11 E12 E13 E14 E15 E16 E17) i) ((n18 de0 de1 de2 de3 de4 de5 de6 de7 de8 de9 de10 de11 de12 de13 de14 de15 de16 de17) i) := fun i hi => match i, hi with | 0, _ => ⟨q0.mono (by decide), eq0, ie0, be0, ne0⟩ | 1, _ => ⟨q1.mono (by decide), eq1, ie1, be1, ne1⟩ | 2, _ => ⟨q2.mono (by decide), eq2, ie2, be2, ne2⟩ | 3, _ => ⟨q3.mono (by decide), eq3, ie3, be3, ne3⟩ | 4, _ => ⟨q4.mono (by decide), eq4, ie4, be4, ne4⟩ | 5, _ => ⟨q5, eq5, ie5, be5, ne5⟩ | 6, _ => ⟨q6, eq6, ie6, be6, ne6⟩ | 7, _ => ⟨q7, eq7, ie7, be7, ne7⟩ | (n + 8), h => absurd h (by omega)
  have EI : ∀ i, 8 ≤ i → i < 18 → EqIn K C i ((n18 E0 E1 E2 E3 E4 E5 E6 E7 E8 E9 E10 E11 E12 E13 E14 E15 E16 E17) i) ((n18 de0 de1 de2 de3 de4 de5 de6 de7 de8 de9 de10 de11 de12 de13 de14 de15 de16 de17) i) := fun i l h => by
    rcases (by omega : i = 8 ∨ i = 9 ∨ i = 10 ∨ i = 11 ∨ i = 12 ∨ i = 13 ∨ i = 14 ∨ i = 15 ∨ i = 16 ∨ i = 17) with rfl | rfl | rfl | rfl | rfl | rfl | rfl | rfl | rfl | rfl
    · exact ⟨eq8, ie8, be8, ne8⟩
    · exact ⟨eq9, ie9, be9, ne9⟩
    · exact ⟨eq10, ie10, be10, ne10⟩
    · exact ⟨eq11, ie11, be11, ne11⟩
    · exact ⟨eq12, ie12, be12, ne12⟩
    · exact ⟨eq13, ie13, be13, ne13⟩
    · exact ⟨eq14, ie14, be14, ne14⟩
    · exact ⟨eq15, ie15, be15, ne15⟩
    · exact ⟨eq16, ie16, be16, ne16⟩
    · exact ⟨eq17, ie17, be17, ne17⟩
  have EQ := eq_all (P := l.prog) (w := w) (base := base) NA kA O EI ET FE8 FE9 FE10 FE11 FE12 FE13 FE14 FE15 FE16 FE17 ⟨cl9, no9a⟩ ⟨cl17, no17a⟩ ⟨cl12, no12a⟩ ⟨cl14, no14a⟩ ⟨cl15, no15a⟩ no10a no10b no16a no16b 8
  have MA : MakA l.prog w K mg base C DA (n18 I9 I9 I9 I9 I9 I9 I9 I9 I9 I9 I10 I9 I12 I9 I14 I15 I16 I17) (n18 di9 di9 di9 di9 di9 di9 di9 di9 di9 di9 di10 di9 di12 di9 di14 di15 di16 di17) := ⟨br8, br11, br13, ⟨mk9, ok_INumber FI9 ⟨cl9, no9a⟩ c_cc, bi9⟩, ⟨mk10, ok_IEach FI10 cl10 no10a no10b c_cc, bi10⟩, kb10, ⟨mk12, ok_IIf FI12 ⟨cl12, no12a⟩ ED c_it2, bi12⟩, kb12, ⟨mk14, ok_IKept FI14 ⟨cl14, no14a⟩ ED c_it2, kept_b2 FI14⟩, kept_b1 FI14, kept_kb FI14, ⟨mk15, ok_INot FI15 ⟨cl15, no15a⟩ ED c_fta, bi15⟩, kb15, ⟨mk16, ok_IRange FI16 NA kA cl16 no16a no16b ED c_fta c_ro, bi16⟩, kb16, ⟨mk17, ok_ICount FI17 ⟨cl17, no17a⟩ c_cc, bi17⟩, kb17⟩
  have W : LwA l.prog w K mg base C CA DA (n18 I9 I9 I9 I9 I9 I9 I9 I9 I9 I9 I10 I9 I12 I9 I14 I15 I16 I17) (n18 di9 di9 di9 di9 di9 di9 di9 di9 di9 di9 di10 di9 di12 di9 di14 di15 di16 di17) (n18 E0 E1 E2 E3 E4 E5 E6 E7 E8 E9 E10 E11 E12 E13 E14 E15 E16 E17) (n18 de0 de1 de2 de3 de4 de5 de6 de7 de8 de9 de10 de11 de12 de13 de14 de15 de16 de17) (n9 P5 P6 P7 P8 P9 P10 P11 P12 P13) (n9 Q5 Q6 Q7 Q8 Q9 Q10 Q11 Q12 Q13) (n9 dq5 dq6 dq7 dq8 dq9 dq10 dq11 dq12 dq13) := ⟨kA, NA, O, MA, EQ, gX⟩
  have c_ms : CallOf l.prog w K mg base 19 "_law_made_spot" ["_law_spot_here"] (spMS C) a_ms d_ms := ⟨ok_MS F_ms NA MA c_mgo, mg_of X G g_ms, k_ms, b_ms⟩
  have CU : CauAt K mg DA a_cau d_cau := ⟨F_cau, mg_of X G g_cau, k_cau, b_cau, ea.xt, ea_no, mg_of X G ea.ns, mg_none_of X G z_isinstance, mg_none_of X G z_ValueError, ea_ex, ea_kv⟩
  have w_nr : CallG l.prog w K mg base 14 "_law_numbers_right" ["_law_pen_here"] (spNmR T) a_nr (fnOf "_law_numbers_right" "_law_numbers_right" (defArgs sNmR) (defBody sNmR) (defScope sNmR) .none kV_nr dc_nr pm_nr an_nr (.ref c_nr) ct_nr) := ⟨ok_NmR FC_nr TB1 in1 one1 CU W mR (mg_none_of X G z_repr) cP c_any c_inl, mg_of X G g_nr, k_nr, b_nr⟩
  have w_tr : CallG l.prog w K mg base 20 "_law_tests_right" ["_law_pen_here", "_law_signs_here"] (spTsR T) a_tr (fnOf "_law_tests_right" "_law_tests_right" (defArgs sTsR) (defBody sTsR) (defScope sTsR) .none kV_tr dc_tr pm_tr an_tr (.ref c_tr) ct_tr) := ⟨ok_TsR FC_tr TB2 in2 one2 CU W ET c_go c_mgo cP c_any, mg_of X G g_tr, k_tr, b_tr⟩
  have w_dr : CallG l.prog w K mg base 20 "_law_deep_right" ["_law_pen_here", "_law_signs_here"] (spDpR T) a_dr (fnOf "_law_deep_right" "_law_deep_right" (defArgs sDpR) (defBody sDpR) (defScope sDpR) .none kV_dr dc_dr pm_dr an_dr (.ref c_dr) ct_dr) := ⟨ok_DpR FC_dr TB3 in3 one3 CU W mR c_sp c_bu c_ms cDr c_any, mg_of X G g_dr, k_dr, b_dr⟩
  have w_rr : CallG l.prog w K mg base 20 "_law_ranges_right" ["_law_pen_here", "_law_signs_here"] (spRgR T) a_rr (fnOf "_law_ranges_right" "_law_ranges_right" (defArgs sRgR) (defBody sRgR) (defScope sRgR) .none kV_rr dc_rr pm_rr an_rr (.ref c_rr) ct_rr) := ⟨ok_RgR FC_rr TB4 in4 one4 CU W mR c_sp c_bu c_ms cP c_any, mg_of X G g_rr, k_rr, b_rr⟩
  exact ok_law FC_law W mR (mg_none_of X G z_min) (mg_none_of X G z_len) c_pen c_few w_nr w_tr w_dr w_rr
end LA
end
section
set_option Elab.async false
set_option linter.all false
open PySem PySem.W PyProof.Rows
set_option maxRecDepth 100000
set_option maxHeartbeats 0
local macro_rules | `(tactic| kernel_rfl) => `(tactic| (with_reducible refine OneRun.split3 ?_ ?_ ?_; (exact OneRun.r_looks _ _); (refine OneRun.v_seen _ ?_ _ _; kernel_rfl); (refine OneRun.v_obs _ ?_ _ _ _ ?_ <;> kernel_rfl)))
theorem PySem.Challenge.cw_linestream_k19_addresses_made_holds : PySem.Challenge.rw_linestream_k19_addresses_made.Holds := by
  w_on; o_law; k_headL
  (case hw => w_witness2)
  k_fill
  refine XJ.caller_walkU (l := PySem.Challenge.rw_linestream_k19_addresses_made) (n := 63) (k := 21) (x := "_law_script") rfl (by decide) rfl ⟨rfl, by decide, by decide⟩ (fun w h Y => PySem.W.kIn_of Y) ?F
  case F =>
    intro w mg fa h Y KX G hmg0 TB
    have hmg : mg "law" = some (.ref fa) := hmg0
    have tb1 := TB "_law_numbers_right" (by decide +kernel)
    have tb2 := TB "_law_tests_right" (by decide +kernel)
    have tb3 := TB "_law_deep_right" (by decide +kernel)
    have tb4 := TB "_law_ranges_right" (by decide +kernel)
    clear hmg0 TB Y
    refine' LA.all_mk KX G hmg tb1 tb2 tb3 tb4 ?h_g_pen ?h_f_pen ?h_k_pen ?h_g_draw ?h_f_draw ?h_k_draw ?h_g_pick ?h_f_pick ?h_k_pick ?h_g_sgn ?h_f_sgn ?h_k_sgn ?h_g_inl ?h_f_inl ?h_k_inl ?h_g_few ?h_f_few ?h_k_few ?h_g_row ?h_f_row ?h_k_row ?h_g_go ?h_f_go ?h_k_go ?h_g_mgo ?h_f_mgo ?h_k_mgo ?h_g_ms ?h_f_ms ?h_k_ms ?h_g_bu ?h_f_bu ?h_k_bu ?h_g_gw ?h_f_gw ?h_k_gw ?h_g_gd ?h_f_gd ?h_k_gd ?h_g_sp ?h_f_sp ?h_k_sp ?h_g_any ?h_f_any ?h_k_any ?h_g_cau ?h_f_cau ?h_k_cau ?h_g_le ?h_f_le ?h_k_le ?h_g_li ?h_f_li ?h_k_li ?h_g_wo ?h_f_wo ?h_k_wo ?h_g_sh ?h_f_sh ?h_k_sh ?h_g_di ?h_f_di ?h_k_di ?h_g_it ?h_f_it ?h_k_it ?h_g_pa ?h_f_pa ?h_k_pa ?h_g_de ?h_f_de ?h_k_de ?h_g_si ?h_f_si ?h_k_si ?h_g_fi ?h_f_fi ?h_k_fi ?h_g_ft ?h_f_ft ?h_k_ft ?h_g_cw ?h_f_cw ?h_k_cw ?h_g_cp ?h_f_cp ?h_k_cp ?h_g_ia ?h_f_ia ?h_k_ia ?h_g_inn ?h_f_inn ?h_k_inn ?h_g_ao ?h_f_ao ?h_k_ao ?h_g_ro ?h_f_ro ?h_k_ro ?h_g_da ?h_f_da ?h_k_da ?h_g_fta ?h_f_fta ?h_k_fta ?h_g_cc ?h_f_cc ?h_k_cc ?h_g_cn ?h_f_cn ?h_k_cn ?h_g_ii ?h_f_ii ?h_k_ii ?h_g_nr ?h_f_nr ?h_k_nr ?h_g_tr ?h_f_tr ?h_k_tr ?h_g_dr ?h_f_dr ?h_k_dr ?h_g_rr ?h_f_rr ?h_k_rr ?h_g_law ?h_f_law ?h_k_law ?h_apt ?h_gc0 ?h_cl0 ?h_mk0 ?h_fi0 ?h_ki0 ?h_eq0 ?h_fe0 ?h_ke0 ?h_ie0 ?h_ne0 ?h_ca0 ?h_ob0 ?h_no0a ?h_gc1 ?h_cl1 ?h_mk1 ?h_fi1 ?h_ki1 ?h_eq1 ?h_fe1 ?h_ke1 ?h_ie1 ?h_ne1 ?h_ca1 ?h_ob1 ?h_no1a ?h_gc2 ?h_cl2 ?h_mk2 ?h_fi2 ?h_ki2 ?h_eq2 ?h_fe2 ?h_ke2 ?h_ie2 ?h_ne2 ?h_ca2 ?h_ob2 ?h_no2a ?h_gc3 ?h_cl3 ?h_mk3 ?h_fi3 ?h_ki3 ?h_eq3 ?h_fe3 ?h_ke3 ?h_ie3 ?h_ne3 ?h_ca3 ?h_ob3 ?h_no3a ?h_gc4 ?h_cl4 ?h_mk4 ?h_fi4 ?h_ki4 ?h_eq4 ?h_fe4 ?h_ke4 ?h_ie4 ?h_ne4 ?h_ca4 ?h_ob4 ?h_no4a ?h_gc5 ?h_cl5 ?h_mk5 ?h_fi5 ?h_ki5 ?h_eq5 ?h_fe5 ?h_ke5 ?h_ie5 ?h_ne5 ?h_ca5 ?h_ob5 ?h_no5a ?h_gc6 ?h_cl6 ?h_mk6 ?h_fi6 ?h_ki6 ?h_eq6 ?h_fe6 ?h_ke6 ?h_ie6 ?h_ne6 ?h_ca6 ?h_ob6 ?h_no6a ?h_no6b ?h_gc7 ?h_cl7 ?h_mk7 ?h_fi7 ?h_ki7 ?h_eq7 ?h_fe7 ?h_ke7 ?h_ie7 ?h_ne7 ?h_ca7 ?h_ob7 ?h_no7a ?h_no7b ?h_gc8 ?h_cl8 ?h_br8 ?h_eq8 ?h_fe8 ?h_ke8 ?h_ie8 ?h_ne8 ?h_ca8 ?h_ob8 ?h_nm8 ?h_gc9 ?h_cl9 ?h_mk9 ?h_fi9 ?h_ki9 ?h_eq9 ?h_fe9 ?h_ke9 ?h_ie9 ?h_ne9 ?h_ca9 ?h_ob9 ?h_no9a ?h_nm9 ?h_gc10 ?h_cl10 ?h_mk10 ?h_fi10 ?h_ki10 ?h_eq10 ?h_fe10 ?h_ke10 ?h_ie10 ?h_ne10 ?h_ca10 ?h_ob10 ?h_no10a ?h_no10b ?h_nm10 ?h_gc11 ?h_cl11 ?h_br11 ?h_eq11 ?h_fe11 ?h_ke11 ?h_ie11 ?h_ne11 ?h_ca11 ?h_ob11 ?h_nm11 ?h_gc12 ?h_cl12 ?h_mk12 ?h_fi12 ?h_ki12 ?h_eq12 ?h_fe12 ?h_ke12 ?h_ie12 ?h_ne12 ?h_ca12 ?h_ob12 ?h_no12a ?h_nm12 ?h_gc13 ?h_cl13 ?h_br13 ?h_eq13 ?h_fe13 ?h_ke13 ?h_ie13 ?h_ne13 ?h_ca13 ?h_ob13 ?h_nm13 ?h_gc14 ?h_cl14 ?h_mk14 ?h_fi14 ?h_eq14 ?h_fe14 ?h_ke14 ?h_ie14 ?h_ne14 ?h_ca14 ?h_ob14 ?h_no14a ?h_nm14 ?h_gc15 ?h_cl15 ?h_mk15 ?h_fi15 ?h_ki15 ?h_eq15 ?h_fe15 ?h_ke15 ?h_ie15 ?h_ne15 ?h_ca15 ?h_ob15 ?h_no15a ?h_nm15 ?h_gc16 ?h_cl16 ?h_mk16 ?h_fi16 ?h_ki16 ?h_eq16 ?h_fe16 ?h_ke16 ?h_ie16 ?h_ne16 ?h_ca16 ?h_ob16 ?h_no16a ?h_no16b ?h_nm16 ?h_gc17 ?h_cl17 ?h_mk17 ?h_fi17 ?h_ki17 ?h_eq17 ?h_fe17 ?h_ke17 ?h_ie17 ?h_ne17 ?h_ca17 ?h_ob17 ?h_no17a ?h_pr0 ?h_fq0 ?h_kq0 ?h_pr1 ?h_fq1 ?h_kq1 ?h_pr2 ?h_fq2 ?h_kq2 ?h_pr3 ?h_fq3 ?h_kq3 ?h_pr4 ?h_fq4 ?h_kq4 ?h_pr5 ?h_fq5 ?h_kq5 ?h_pr6 ?h_fq6 ?h_kq6 ?h_pr7 ?h_fq7 ?h_kq7 ?h_pr8 ?h_fq8 ?h_kq8 ?h_pr9 ?h_fq9 ?h_kq9 ?h_pr10 ?h_fq10 ?h_kq10 ?h_pr11 ?h_fq11 ?h_kq11 ?h_pr12 ?h_fq12 ?h_kq12 ?h_pr13 ?h_fq13 ?h_kq13 ?h_cg ?h_ct ?h_kts ?h_kta ?h_out ?h_gCA ?h_er ?h_er_no ?h_er_i ?h_er_ty ?h_er_f ?h_er_k ?h_ea ?h_ea_no ?h_ea_i ?h_ea_ty ?h_ea_f ?h_ea_k ?h_ea_ex ?h_ea_kv ?h_z_len ?h_z_int ?h_z_list ?h_z_abs ?h_z_range ?h_z_set ?h_z_all ?h_z_ord ?h_z_isinstance ?h_z_str ?h_z_max ?h_z_bool ?h_z_repr ?h_z_ValueError ?h_z_sum ?h_z_min ?h_y0 ?h_y1 ?h_y2 ?h_y3 ?h_y4 ?h_y5 ?h_y6
    (case h_g_pen => k_is)
    (case h_f_pen => (refine' XJ.fnF_mk ?q1 ?q2; (case q1 => k_is); (case q2 => k_is)))
    (case h_k_pen => k_is)
    (case h_g_draw => k_is)
    (case h_f_draw => (refine' XJ.fnF_mk ?q1 ?q2; (case q1 => k_is); (case q2 => k_is)))
    (case h_k_draw => k_is)
    (case h_g_pick => k_is)
    (case h_f_pick => (refine' XJ.fnF_mk ?q1 ?q2; (case q1 => k_is); (case q2 => k_is)))
    (case h_k_pick => k_is)
    (case h_g_sgn => k_is)
    (case h_f_sgn => (refine' XJ.fnF_mk ?q1 ?q2; (case q1 => k_is); (case q2 => k_is)))
    (case h_k_sgn => k_is)
    (case h_g_inl => k_is)
    (case h_f_inl => (refine' XJ.fnF_mk ?q1 ?q2; (case q1 => k_is); (case q2 => k_is)))
    (case h_k_inl => k_is)
    (case h_g_few => k_is)
    (case h_f_few => (refine' XJ.fnF_mk ?q1 ?q2; (case q1 => k_is); (case q2 => k_is)))
    (case h_k_few => k_is)
    (case h_g_row => k_is)
    (case h_f_row => (refine' XJ.fnF_mk ?q1 ?q2; (case q1 => k_is); (case q2 => k_is)))
    (case h_k_row => k_is)
    (case h_g_go => k_is)
    (case h_f_go => (refine' XJ.fnF_mk ?q1 ?q2; (case q1 => k_is); (case q2 => k_is)))
    (case h_k_go => k_is)
    (case h_g_mgo => k_is)
    (case h_f_mgo => (refine' XJ.fnF_mk ?q1 ?q2; (case q1 => k_is); (case q2 => k_is)))
    (case h_k_mgo => k_is)
    (case h_g_ms => k_is)
    (case h_f_ms => (refine' XJ.fnF_mk ?q1 ?q2; (case q1 => k_is); (case q2 => k_is)))
    (case h_k_ms => k_is)
    (case h_g_bu => k_is)
    (case h_f_bu => (refine' XJ.fnF_mk ?q1 ?q2; (case q1 => k_is); (case q2 => k_is)))
    (case h_k_bu => k_is)
    (case h_g_gw => k_is)
    (case h_f_gw => (refine' XJ.fnF_mk ?q1 ?q2; (case q1 => k_is); (case q2 => k_is)))
    (case h_k_gw => k_is)
    (case h_g_gd => k_is)
    (case h_f_gd => (refine' XJ.fnF_mk ?q1 ?q2; (case q1 => k_is); (case q2 => k_is)))
    (case h_k_gd => k_is)
    (case h_g_sp => k_is)
    (case h_f_sp => (refine' XJ.fnF_mk ?q1 ?q2; (case q1 => k_is); (case q2 => k_is)))
    (case h_k_sp => k_is)
    (case h_g_any => k_is)
    (case h_f_any => (refine' XJ.fnF_mk ?q1 ?q2; (case q1 => k_is); (case q2 => k_is)))
    (case h_k_any => k_is)
    (case h_g_cau => k_is)
    (case h_f_cau => (refine' XJ.fnF_mk ?q1 ?q2; (case q1 => k_is); (case q2 => k_is)))
    (case h_k_cau => k_is)
    (case h_g_le => k_is)
    (case h_f_le => (refine' XJ.fnF_mk ?q1 ?q2; (case q1 => k_is); (case q2 => k_is)))
    (case h_k_le => k_is)
    (case h_g_li => k_is)
    (case h_f_li => (refine' XJ.fnF_mk ?q1 ?q2; (case q1 => k_is); (case q2 => k_is)))
    (case h_k_li => k_is)
    (case h_g_wo => k_is)
    (case h_f_wo => (refine' XJ.fnF_mk ?q1 ?q2; (case q1 => k_is); (case q2 => k_is)))
    (case h_k_wo => k_is)
    (case h_g_sh => k_is)
    (case h_f_sh => (refine' XJ.fnF_mk ?q1 ?q2; (case q1 => k_is); (case q2 => k_is)))
    (case h_k_sh => k_is)
    (case h_g_di => k_is)
    (case h_f_di => (refine' XJ.fnF_mk ?q1 ?q2; (case q1 => k_is); (case q2 => k_is)))
    (case h_k_di => k_is)
    (case h_g_it => k_is)
    (case h_f_it => (refine' XJ.fnF_mk ?q1 ?q2; (case q1 => k_is); (case q2 => k_is)))
    (case h_k_it => k_is)
    (case h_g_pa => k_is)
    (case h_f_pa => (refine' XJ.fnF_mk ?q1 ?q2; (case q1 => k_is); (case q2 => k_is)))
    (case h_k_pa => k_is)
    (case h_g_de => k_is)
    (case h_f_de => (refine' XJ.fnF_mk ?q1 ?q2; (case q1 => k_is); (case q2 => k_is)))
    (case h_k_de => k_is)
    (case h_g_si => k_is)
    (case h_f_si => (refine' XJ.fnF_mk ?q1 ?q2; (case q1 => k_is); (case q2 => k_is)))
    (case h_k_si => k_is)
    (case h_g_fi => k_is)
    (case h_f_fi => (refine' XJ.fnF_mk ?q1 ?q2; (case q1 => k_is); (case q2 => k_is)))
    (case h_k_fi => k_is)
    (case h_g_ft => k_is)
    (case h_f_ft => (refine' XJ.fnF_mk ?q1 ?q2; (case q1 => k_is); (case q2 => k_is)))
    (case h_k_ft => k_is)
    (case h_g_cw => k_is)
    (case h_f_cw => (refine' XJ.fnF_mk ?q1 ?q2; (case q1 => k_is); (case q2 => k_is)))
    (case h_k_cw => k_is)
    (case h_g_cp => k_is)
    (case h_f_cp => (refine' XJ.fnF_mk ?q1 ?q2; (case q1 => k_is); (case q2 => k_is)))
    (case h_k_cp => k_is)
    (case h_g_ia => k_is)
    (case h_f_ia => (refine' XJ.fnF_mk ?q1 ?q2; (case q1 => k_is); (case q2 => k_is)))
    (case h_k_ia => k_is)
    (case h_g_inn => k_is)
    (case h_f_inn => (refine' XJ.fnF_mk ?q1 ?q2; (case q1 => k_is); (case q2 => k_is)))
    (case h_k_inn => k_is)
    (case h_g_ao => k_is)
    (case h_f_ao => (refine' XJ.fnF_mk ?q1 ?q2; (case q1 => k_is); (case q2 => k_is)))
    (case h_k_ao => k_is)
    (case h_g_ro => k_is)
    (case h_f_ro => (refine' XJ.fnF_mk ?q1 ?q2; (case q1 => k_is); (case q2 => k_is)))
    (case h_k_ro => k_is)
    (case h_g_da => k_is)
    (case h_f_da => (refine' XJ.fnF_mk ?q1 ?q2; (case q1 => k_is); (case q2 => k_is)))
    (case h_k_da => k_is)
    (case h_g_fta => k_is)
    (case h_f_fta => (refine' XJ.fnF_mk ?q1 ?q2; (case q1 => k_is); (case q2 => k_is)))
    (case h_k_fta => k_is)
    (case h_g_cc => k_is)
    (case h_f_cc => (refine' XJ.fnF_mk ?q1 ?q2; (case q1 => k_is); (case q2 => k_is)))
    (case h_k_cc => k_is)
    (case h_g_cn => k_is)
    (case h_f_cn => (refine' XJ.fnF_mk ?q1 ?q2; (case q1 => k_is); (case q2 => k_is)))
    (case h_k_cn => k_is)
    (case h_g_ii => k_is)
    (case h_f_ii => (refine' XJ.fnF_mk ?q1 ?q2; (case q1 => k_is); (case q2 => k_is)))
    (case h_k_ii => k_is)
    (case h_g_nr => k_is)
    (case h_f_nr => (refine' XJ.fnFC_mk ?q1 ?q2; (case q1 => k_is); (case q2 => k_is)))
    (case h_k_nr => k_is)
    (case h_g_tr => k_is)
    (case h_f_tr => (refine' XJ.fnFC_mk ?q1 ?q2; (case q1 => k_is); (case q2 => k_is)))
    (case h_k_tr => k_is)
    (case h_g_dr => k_is)
    (case h_f_dr => (refine' XJ.fnFC_mk ?q1 ?q2; (case q1 => k_is); (case q2 => k_is)))
    (case h_k_dr => k_is)
    (case h_g_rr => k_is)
    (case h_f_rr => (refine' XJ.fnFC_mk ?q1 ?q2; (case q1 => k_is); (case q2 => k_is)))
    (case h_k_rr => k_is)
    (case h_g_law => k_is)
    (case h_f_law => (refine' XJ.fnFC_mk ?q1 ?q2; (case q1 => k_is); (case q2 => k_is)))
    (case h_k_law => k_is)
    (case h_apt => kernel_rfl)
    (case h_gc0 => k_is)
    (case h_cl0 => (refine' ⟨?q1, ?q2, ?q3, ?q4⟩; (case q1 => k_is); (case q2 => k_is); (case q3 => k_is); (case q4 => k_is)))
    (case h_mk0 => (refine' ⟨?q1, ?q2, ?q3, ?q4⟩; (case q1 => k_is); (case q2 => k_is); (case q3 => k_is); (case q4 => k_is)))
    (case h_fi0 => (refine' XJ.fnF_mk ?q1 ?q2; (case q1 => k_is); (case q2 => k_is)))
    (case h_ki0 => k_is)
    (case h_eq0 => k_is)
    (case h_fe0 => (refine' XJ.fnF_mk ?q1 ?q2; (case q1 => k_is); (case q2 => k_is)))
    (case h_ke0 => k_is)
    (case h_ie0 => k_is)
    (case h_ne0 => k_is)
    (case h_ca0 => k_is)
    (case h_ob0 => k_is)
    (case h_no0a => (unfold L2.NoAttr; k_is))
    (case h_gc1 => k_is)
    (case h_cl1 => (refine' ⟨?q1, ?q2, ?q3, ?q4⟩; (case q1 => k_is); (case q2 => k_is); (case q3 => k_is); (case q4 => k_is)))
    (case h_mk1 => (refine' ⟨?q1, ?q2, ?q3, ?q4⟩; (case q1 => k_is); (case q2 => k_is); (case q3 => k_is); (case q4 => k_is)))
    (case h_fi1 => (refine' XJ.fnF_mk ?q1 ?q2; (case q1 => k_is); (case q2 => k_is)))
    (case h_ki1 => k_is)
    (case h_eq1 => k_is)
    (case h_fe1 => (refine' XJ.fnF_mk ?q1 ?q2; (case q1 => k_is); (case q2 => k_is)))
    (case h_ke1 => k_is)
    (case h_ie1 => k_is)
    (case h_ne1 => k_is)
    (case h_ca1 => k_is)
    (case h_ob1 => k_is)
    (case h_no1a => (unfold L2.NoAttr; k_is))
    (case h_gc2 => k_is)
    (case h_cl2 => (refine' ⟨?q1, ?q2, ?q3, ?q4⟩; (case q1 => k_is); (case q2 => k_is); (case q3 => k_is); (case q4 => k_is)))
    (case h_mk2 => (refine' ⟨?q1, ?q2, ?q3, ?q4⟩; (case q1 => k_is); (case q2 => k_is); (case q3 => k_is); (case q4 => k_is)))
    (case h_fi2 => (refine' XJ.fnF_mk ?q1 ?q2; (case q1 => k_is); (case q2 => k_is)))
    (case h_ki2 => k_is)
    (case h_eq2 => k_is)
    (case h_fe2 => (refine' XJ.fnF_mk ?q1 ?q2; (case q1 => k_is); (case q2 => k_is)))
    (case h_ke2 => k_is)
    (case h_ie2 => k_is)
    (case h_ne2 => k_is)
    (case h_ca2 => k_is)
    (case h_ob2 => k_is)
    (case h_no2a => (unfold L2.NoAttr; k_is))
    (case h_gc3 => k_is)
    (case h_cl3 => (refine' ⟨?q1, ?q2, ?q3, ?q4⟩; (case q1 => k_is); (case q2 => k_is); (case q3 => k_is); (case q4 => k_is)))
    (case h_mk3 => (refine' ⟨?q1, ?q2, ?q3, ?q4⟩; (case q1 => k_is); (case q2 => k_is); (case q3 => k_is); (case q4 => k_is)))
    (case h_fi3 => (refine' XJ.fnF_mk ?q1 ?q2; (case q1 => k_is); (case q2 => k_is)))
    (case h_ki3 => k_is)
    (case h_eq3 => k_is)
    (case h_fe3 => (refine' XJ.fnF_mk ?q1 ?q2; (case q1 => k_is); (case q2 => k_is)))
    (case h_ke3 => k_is)
    (case h_ie3 => k_is)
    (case h_ne3 => k_is)
    (case h_ca3 => k_is)
    (case h_ob3 => k_is)
    (case h_no3a => (unfold L2.NoAttr; k_is))
    (case h_gc4 => k_is)
    (case h_cl4 => (refine' ⟨?q1, ?q2, ?q3, ?q4⟩; (case q1 => k_is); (case q2 => k_is); (case q3 => k_is); (case q4 => k_is)))
    (case h_mk4 => (refine' ⟨?q1, ?q2, ?q3, ?q4⟩; (case q1 => k_is); (case q2 => k_is); (case q3 => k_is); (case q4 => k_is)))
    (case h_fi4 => (refine' XJ.fnF_mk ?q1 ?q2; (case q1 => k_is); (case q2 => k_is)))
    (case h_ki4 => k_is)
    (case h_eq4 => k_is)
    (case h_fe4 => (refine' XJ.fnF_mk ?q1 ?q2; (case q1 => k_is); (case q2 => k_is)))
    (case h_ke4 => k_is)
    (case h_ie4 => k_is)
    (case h_ne4 => k_is)
    (case h_ca4 => k_is)
    (case h_ob4 => k_is)
    (case h_no4a => (unfold L2.NoAttr; k_is))
    (case h_gc5 => k_is)
    (case h_cl5 => (refine' ⟨?q1, ?q2, ?q3, ?q4⟩; (case q1 => k_is); (case q2 => k_is); (case q3 => k_is); (case q4 => k_is)))
    (case h_mk5 => (refine' ⟨?q1, ?q2, ?q3, ?q4⟩; (case q1 => k_is); (case q2 => k_is); (case q3 => k_is); (case q4 => k_is)))
    (case h_fi5 => (refine' XJ.fnF_mk ?q1 ?q2; (case q1 => k_is); (case q2 => k_is)))
    (case h_ki5 => k_is)
    (case h_eq5 => k_is)
    (case h_fe5 => (refine' XJ.fnF_mk ?q1 ?q2; (case q1 => k_is); (case q2 => k_is)))
    (case h_ke5 => k_is)
    (case h_ie5 => k_is)
    (case h_ne5 => k_is)
    (case h_ca5 => k_is)
    (case h_ob5 => k_is)
    (case h_no5a => (unfold L2.NoAttr; k_is))
    (case h_gc6 => k_is)
    (case h_cl6 => (refine' ⟨?q1, ?q2, ?q3, ?q4⟩; (case q1 => k_is); (case q2 => k_is); (case q3 => k_is); (case q4 => k_is)))
    (case h_mk6 => (refine' ⟨?q1, ?q2, ?q3, ?q4⟩; (case q1 => k_is); (case q2 => k_is); (case q3 => k_is); (case q4 => k_is)))
    (case h_fi6 => (refine' XJ.fnF_mk ?q1 ?q2; (case q1 => k_is); (case q2 => k_is)))
    (case h_ki6 => k_is)
    (case h_eq6 => k_is)
    (case h_fe6 => (refine' XJ.fnF_mk ?q1 ?q2; (case q1 => k_is); (case q2 => k_is)))
    (case h_ke6 => k_is)
    (case h_ie6 => k_is)
    (case h_ne6 => k_is)
    (case h_ca6 => k_is)
    (case h_ob6 => k_is)
    (case h_no6a => (unfold L2.NoAttr; k_is))
    (case h_no6b => (unfold L2.NoAttr; k_is))
    (case h_gc7 => k_is)
    (case h_cl7 => (refine' ⟨?q1, ?q2, ?q3, ?q4⟩; (case q1 => k_is); (case q2 => k_is); (case q3 => k_is); (case q4 => k_is)))
    (case h_mk7 => (refine' ⟨?q1, ?q2, ?q3, ?q4⟩; (case q1 => k_is); (case q2 => k_is); (case q3 => k_is); (case q4 => k_is)))
    (case h_fi7 => (refine' XJ.fnF_mk ?q1 ?q2; (case q1 => k_is); (case q2 => k_is)))
    (case h_ki7 => k_is)
    (case h_eq7 => k_is)
    (case h_fe7 => (refine' XJ.fnF_mk ?q1 ?q2; (case q1 => k_is); (case q2 => k_is)))
    (case h_ke7 => k_is)
    (case h_ie7 => k_is)
    (case h_ne7 => k_is)
    (case h_ca7 => k_is)
    (case h_ob7 => k_is)
    (case h_no7a => (unfold L2.NoAttr; k_is))
    (case h_no7b => (unfold L2.NoAttr; k_is))
    (case h_gc8 => k_is)
    (case h_cl8 => (refine' ⟨?q1, ?q2, ?q3, ?q4⟩; (case q1 => k_is); (case q2 => k_is); (case q3 => k_is); (case q4 => k_is)))
    (case h_br8 => (refine' ⟨?q1, ?q2, ?q3⟩; (case q1 => k_is); (case q2 => k_is); (case q3 => k_is)))
    (case h_eq8 => k_is)
    (case h_fe8 => (refine' XJ.fnF_mk ?q1 ?q2; (case q1 => k_is); (case q2 => k_is)))
    (case h_ke8 => k_is)
    (case h_ie8 => k_is)
    (case h_ne8 => k_is)
    (case h_ca8 => k_is)
    (case h_ob8 => k_is)
    (case h_nm8 => (refine' LA.named_mk ?q1 ?q2 ?q3 ?q4 ?q5; (case q1 => k_is); (case q2 => k_is); (case q3 => k_is); (case q4 => k_is); (case q5 => rfl)))
    (case h_gc9 => k_is)
    (case h_cl9 => (refine' ⟨?q1, ?q2, ?q3, ?q4⟩; (case q1 => k_is); (case q2 => k_is); (case q3 => k_is); (case q4 => k_is)))
    (case h_mk9 => (refine' ⟨?q1, ?q2, ?q3, ?q4⟩; (case q1 => k_is); (case q2 => k_is); (case q3 => k_is); (case q4 => k_is)))
    (case h_fi9 => (refine' XJ.fnF_mk ?q1 ?q2; (case q1 => k_is); (case q2 => k_is)))
    (case h_ki9 => k_is)
    (case h_eq9 => k_is)
    (case h_fe9 => (refine' XJ.fnF_mk ?q1 ?q2; (case q1 => k_is); (case q2 => k_is)))
    (case h_ke9 => k_is)
    (case h_ie9 => k_is)
    (case h_ne9 => k_is)
    (case h_ca9 => k_is)
    (case h_ob9 => k_is)
    (case h_no9a => (unfold L2.NoAttr; k_is))
    (case h_nm9 => (refine' LA.named_mk ?q1 ?q2 ?q3 ?q4 ?q5; (case q1 => k_is); (case q2 => k_is); (case q3 => k_is); (case q4 => k_is); (case q5 => rfl)))
    (case h_gc10 => k_is)
    (case h_cl10 => (refine' ⟨?q1, ?q2, ?q3, ?q4⟩; (case q1 => k_is); (case q2 => k_is); (case q3 => k_is); (case q4 => k_is)))
    (case h_mk10 => (refine' ⟨?q1, ?q2, ?q3, ?q4⟩; (case q1 => k_is); (case q2 => k_is); (case q3 => k_is); (case q4 => k_is)))
    (case h_fi10 => (refine' XJ.fnF_mk ?q1 ?q2; (case q1 => k_is); (case q2 => k_is)))
    (case h_ki10 => k_is)
    (case h_eq10 => k_is)
    (case h_fe10 => (refine' XJ.fnF_mk ?q1 ?q2; (case q1 => k_is); (case q2 => k_is)))
    (case h_ke10 => k_is)
    (case h_ie10 => k_is)
    (case h_ne10 => k_is)
    (case h_ca10 => k_is)
    (case h_ob10 => k_is)
    (case h_no10a => (unfold L2.NoAttr; k_is))
    (case h_no10b => (unfold L2.NoAttr; k_is))
    (case h_nm10 => (refine' LA.named_mk ?q1 ?q2 ?q3 ?q4 ?q5; (case q1 => k_is); (case q2 => k_is); (case q3 => k_is); (case q4 => k_is); (case q5 => rfl)))
    (case h_gc11 => k_is)
    (case h_cl11 => (refine' ⟨?q1, ?q2, ?q3, ?q4⟩; (case q1 => k_is); (case q2 => k_is); (case q3 => k_is); (case q4 => k_is)))
    (case h_br11 => (refine' ⟨?q1, ?q2, ?q3⟩; (case q1 => k_is); (case q2 => k_is); (case q3 => k_is)))
    (case h_eq11 => k_is)
    (case h_fe11 => (refine' XJ.fnF_mk ?q1 ?q2; (case q1 => k_is); (case q2 => k_is)))
    (case h_ke11 => k_is)
    (case h_ie11 => k_is)
    (case h_ne11 => k_is)
    (case h_ca11 => k_is)
    (case h_ob11 => k_is)
    (case h_nm11 => (refine' LA.named_mk ?q1 ?q2 ?q3 ?q4 ?q5; (case q1 => k_is); (case q2 => k_is); (case q3 => k_is); (case q4 => k_is); (case q5 => rfl)))
    (case h_gc12 => k_is)
    (case h_cl12 => (refine' ⟨?q1, ?q2, ?q3, ?q4⟩; (case q1 => k_is); (case q2 => k_is); (case q3 => k_is); (case q4 => k_is)))
    (case h_mk12 => (refine' ⟨?q1, ?q2, ?q3, ?q4⟩; (case q1 => k_is); (case q2 => k_is); (case q3 => k_is); (case q4 => k_is)))
    (case h_fi12 => (refine' XJ.fnF_mk ?q1 ?q2; (case q1 => k_is); (case q2 => k_is)))
    (case h_ki12 => k_is)
    (case h_eq12 => k_is)
    (case h_fe12 => (refine' XJ.fnF_mk ?q1 ?q2; (case q1 => k_is); (case q2 => k_is)))
    (case h_ke12 => k_is)
    (case h_ie12 => k_is)
    (case h_ne12 => k_is)
    (case h_ca12 => k_is)
    (case h_ob12 => k_is)
    (case h_no12a => (unfold L2.NoAttr; k_is))
    (case h_nm12 => (refine' LA.named_mk ?q1 ?q2 ?q3 ?q4 ?q5; (case q1 => k_is); (case q2 => k_is); (case q3 => k_is); (case q4 => k_is); (case q5 => rfl)))
    (case h_gc13 => k_is)
    (case h_cl13 => (refine' ⟨?q1, ?q2, ?q3, ?q4⟩; (case q1 => k_is); (case q2 => k_is); (case q3 => k_is); (case q4 => k_is)))
    (case h_br13 => (refine' ⟨?q1, ?q2, ?q3⟩; (case q1 => k_is); (case q2 => k_is); (case q3 => k_is)))
    (case h_eq13 => k_is)
    (case h_fe13 => (refine' XJ.fnF_mk ?q1 ?q2; (case q1 => k_is); (case q2 => k_is)))
    (case h_ke13 => k_is)
    (case h_ie13 => k_is)
    (case h_ne13 => k_is)
    (case h_ca13 => k_is)
    (case h_ob13 => k_is)
    (case h_nm13 => (refine' LA.named_mk ?q1 ?q2 ?q3 ?q4 ?q5; (case q1 => k_is); (case q2 => k_is); (case q3 => k_is); (case q4 => k_is); (case q5 => rfl)))
    (case h_gc14 => k_is)
    (case h_cl14 => (refine' ⟨?q1, ?q2, ?q3, ?q4⟩; (case q1 => k_is); (case q2 => k_is); (case q3 => k_is); (case q4 => k_is)))
    (case h_mk14 => (refine' ⟨?q1, ?q2, ?q3, ?q4⟩; (case q1 => k_is); (case q2 => k_is); (case q3 => k_is); (case q4 => k_is)))
    (case h_fi14 => (refine' LA.funD_mk ?q1 ?q2 ?q3 ?q4 ?q5; (case q1 => k_is); (case q2 => k_is); (case q3 => k_is); (case q4 => rfl); (case q5 => k_is)))
    (case h_eq14 => k_is)
    (case h_fe14 => (refine' XJ.fnF_mk ?q1 ?q2; (case q1 => k_is); (case q2 => k_is)))
    (case h_ke14 => k_is)
    (case h_ie14 => k_is)
    (case h_ne14 => k_is)
    (case h_ca14 => k_is)
    (case h_ob14 => k_is)
    (case h_no14a => (unfold L2.NoAttr; k_is))
    (case h_nm14 => (refine' LA.named_mk ?q1 ?q2 ?q3 ?q4 ?q5; (case q1 => k_is); (case q2 => k_is); (case q3 => k_is); (case q4 => k_is); (case q5 => rfl)))
    (case h_gc15 => k_is)
    (case h_cl15 => (refine' ⟨?q1, ?q2, ?q3, ?q4⟩; (case q1 => k_is); (case q2 => k_is); (case q3 => k_is); (case q4 => k_is)))
    (case h_mk15 => (refine' ⟨?q1, ?q2, ?q3, ?q4⟩; (case q1 => k_is); (case q2 => k_is); (case q3 => k_is); (case q4 => k_is)))
    (case h_fi15 => (refine' XJ.fnF_mk ?q1 ?q2; (case q1 => k_is); (case q2 => k_is)))
    (case h_ki15 => k_is)
    (case h_eq15 => k_is)
    (case h_fe15 => (refine' XJ.fnF_mk ?q1 ?q2; (case q1 => k_is); (case q2 => k_is)))
    (case h_ke15 => k_is)
    (case h_ie15 => k_is)
    (case h_ne15 => k_is)
    (case h_ca15 => k_is)
    (case h_ob15 => k_is)
    (case h_no15a => (unfold L2.NoAttr; k_is))
    (case h_nm15 => (refine' LA.named_mk ?q1 ?q2 ?q3 ?q4 ?q5; (case q1 => k_is); (case q2 => k_is); (case q3 => k_is); (case q4 => k_is); (case q5 => rfl)))
    (case h_gc16 => k_is)
    (case h_cl16 => (refine' ⟨?q1, ?q2, ?q3, ?q4⟩; (case q1 => k_is); (case q2 => k_is); (case q3 => k_is); (case q4 => k_is)))
    (case h_mk16 => (refine' ⟨?q1, ?q2, ?q3, ?q4⟩; (case q1 => k_is); (case q2 => k_is); (case q3 => k_is); (case q4 => k_is)))
    (case h_fi16 => (refine' XJ.fnF_mk ?q1 ?q2; (case q1 => k_is); (case q2 => k_is)))
    (case h_ki16 => k_is)
    (case h_eq16 => k_is)
    (case h_fe16 => (refine' XJ.fnF_mk ?q1 ?q2; (case q1 => k_is); (case q2 => k_is)))
    (case h_ke16 => k_is)
    (case h_ie16 => k_is)
    (case h_ne16 => k_is)
    (case h_ca16 => k_is)
    (case h_ob16 => k_is)
    (case h_no16a => (unfold L2.NoAttr; k_is))
    (case h_no16b => (unfold L2.NoAttr; k_is))
    (case h_nm16 => (refine' LA.named_mk ?q1 ?q2 ?q3 ?q4 ?q5; (case q1 => k_is); (case q2 => k_is); (case q3 => k_is); (case q4 => k_is); (case q5 => rfl)))
    (case h_gc17 => k_is)
    (case h_cl17 => (refine' ⟨?q1, ?q2, ?q3, ?q4⟩; (case q1 => k_is); (case q2 => k_is); (case q3 => k_is); (case q4 => k_is)))
    (case h_mk17 => (refine' ⟨?q1, ?q2, ?q3, ?q4⟩; (case q1 => k_is); (case q2 => k_is); (case q3 => k_is); (case q4 => k_is)))
    (case h_fi17 => (refine' XJ.fnF_mk ?q1 ?q2; (case q1 => k_is); (case q2 => k_is)))
    (case h_ki17 => k_is)
    (case h_eq17 => k_is)
    (case h_fe17 => (refine' XJ.fnF_mk ?q1 ?q2; (case q1 => k_is); (case q2 => k_is)))
    (case h_ke17 => k_is)
    (case h_ie17 => k_is)
    (case h_ne17 => k_is)
    (case h_ca17 => k_is)
    (case h_ob17 => k_is)
    (case h_no17a => (unfold L2.NoAttr; k_is))
    (case h_pr0 => (refine' XJ.propF_mk ?q1 ?q2 ?q3 ?q4; (case q1 => k_is); (case q2 => k_is); (case q3 => k_is); (case q4 => k_is)))
    (case h_fq0 => (refine' XJ.fnF_mk ?q1 ?q2; (case q1 => k_is); (case q2 => k_is)))
    (case h_kq0 => k_is)
    (case h_pr1 => (refine' XJ.propF_mk ?q1 ?q2 ?q3 ?q4; (case q1 => k_is); (case q2 => k_is); (case q3 => k_is); (case q4 => k_is)))
    (case h_fq1 => (refine' XJ.fnF_mk ?q1 ?q2; (case q1 => k_is); (case q2 => k_is)))
    (case h_kq1 => k_is)
    (case h_pr2 => (refine' XJ.propF_mk ?q1 ?q2 ?q3 ?q4; (case q1 => k_is); (case q2 => k_is); (case q3 => k_is); (case q4 => k_is)))
    (case h_fq2 => (refine' XJ.fnF_mk ?q1 ?q2; (case q1 => k_is); (case q2 => k_is)))
    (case h_kq2 => k_is)
    (case h_pr3 => (refine' XJ.propF_mk ?q1 ?q2 ?q3 ?q4; (case q1 => k_is); (case q2 => k_is); (case q3 => k_is); (case q4 => k_is)))
    (case h_fq3 => (refine' XJ.fnF_mk ?q1 ?q2; (case q1 => k_is); (case q2 => k_is)))
    (case h_kq3 => k_is)
    (case h_pr4 => (refine' XJ.propF_mk ?q1 ?q2 ?q3 ?q4; (case q1 => k_is); (case q2 => k_is); (case q3 => k_is); (case q4 => k_is)))
    (case h_fq4 => (refine' XJ.fnF_mk ?q1 ?q2; (case q1 => k_is); (case q2 => k_is)))
    (case h_kq4 => k_is)
    (case h_pr5 => (refine' XJ.propF_mk ?q1 ?q2 ?q3 ?q4; (case q1 => k_is); (case q2 => k_is); (case q3 => k_is); (case q4 => k_is)))
    (case h_fq5 => (refine' XJ.fnF_mk ?q1 ?q2; (case q1 => k_is); (case q2 => k_is)))
    (case h_kq5 => k_is)
    (case h_pr6 => (refine' XJ.propF_mk ?q1 ?q2 ?q3 ?q4; (case q1 => k_is); (case q2 => k_is); (case q3 => k_is); (case q4 => k_is)))
    (case h_fq6 => (refine' XJ.fnF_mk ?q1 ?q2; (case q1 => k_is); (case q2 => k_is)))
    (case h_kq6 => k_is)
    (case h_pr7 => (refine' XJ.propF_mk ?q1 ?q2 ?q3 ?q4; (case q1 => k_is); (case q2 => k_is); (case q3 => k_is); (case q4 => k_is)))
    (case h_fq7 => (refine' XJ.fnF_mk ?q1 ?q2; (case q1 => k_is); (case q2 => k_is)))
    (case h_kq7 => k_is)
    (case h_pr8 => (refine' XJ.propF_mk ?q1 ?q2 ?q3 ?q4; (case q1 => k_is); (case q2 => k_is); (case q3 => k_is); (case q4 => k_is)))
    (case h_fq8 => (refine' XJ.fnF_mk ?q1 ?q2; (case q1 => k_is); (case q2 => k_is)))
    (case h_kq8 => k_is)
    (case h_pr9 => (refine' XJ.propF_mk ?q1 ?q2 ?q3 ?q4; (case q1 => k_is); (case q2 => k_is); (case q3 => k_is); (case q4 => k_is)))
    (case h_fq9 => (refine' XJ.fnF_mk ?q1 ?q2; (case q1 => k_is); (case q2 => k_is)))
    (case h_kq9 => k_is)
    (case h_pr10 => (refine' XJ.propF_mk ?q1 ?q2 ?q3 ?q4; (case q1 => k_is); (case q2 => k_is); (case q3 => k_is); (case q4 => k_is)))
    (case h_fq10 => (refine' XJ.fnF_mk ?q1 ?q2; (case q1 => k_is); (case q2 => k_is)))
    (case h_kq10 => k_is)
    (case h_pr11 => (refine' XJ.propF_mk ?q1 ?q2 ?q3 ?q4; (case q1 => k_is); (case q2 => k_is); (case q3 => k_is); (case q4 => k_is)))
    (case h_fq11 => (refine' XJ.fnF_mk ?q1 ?q2; (case q1 => k_is); (case q2 => k_is)))
    (case h_kq11 => k_is)
    (case h_pr12 => (refine' XJ.propF_mk ?q1 ?q2 ?q3 ?q4; (case q1 => k_is); (case q2 => k_is); (case q3 => k_is); (case q4 => k_is)))
    (case h_fq12 => (refine' XJ.fnF_mk ?q1 ?q2; (case q1 => k_is); (case q2 => k_is)))
    (case h_kq12 => k_is)
    (case h_pr13 => (refine' XJ.propF_mk ?q1 ?q2 ?q3 ?q4; (case q1 => k_is); (case q2 => k_is); (case q3 => k_is); (case q4 => k_is)))
    (case h_fq13 => (refine' XJ.fnF_mk ?q1 ?q2; (case q1 => k_is); (case q2 => k_is)))
    (case h_kq13 => k_is)
    (case h_cg => k_is)
    (case h_ct => k_is)
    (case h_kts => kernel_rfl)
    (case h_kta => kernel_rfl)
    (case h_out => kernel_rfl)
    (case h_gCA => k_is)
    (case h_er => (refine' ⟨?q1, ?q2, ?q3, ?q4, ?q5, ?q6, ?q7, ?q8, ?q9, ?q10, ?q11, ?q12, ?q13, ?q14, ?q15⟩; (case q1 => k_is); (case q2 => kernel_rfl); (case q3 => kernel_rfl); (case q4 => k_is); (case q5 => k_is); (case q6 => k_is); (case q7 => k_is); (case q8 => k_is); (case q9 => k_is); (case q10 => k_is); (case q11 => k_is); (case q12 => k_is); (case q13 => k_is); (case q14 => k_is); (case q15 => (refine' XJ.xc_mk ?r1 ?r2; (case r1 => k_is); (case r2 => kernel_rfl)))))
    (case h_er_no => k_is)
    (case h_er_i => k_is)
    (case h_er_ty => k_is)
    (case h_er_f => (refine' XJ.fnF_mk ?q1 ?q2; (case q1 => k_is); (case q2 => k_is)))
    (case h_er_k => k_is)
    (case h_ea => (refine' ⟨?q1, ?q2, ?q3, ?q4, ?q5, ?q6, ?q7, ?q8, ?q9, ?q10, ?q11, ?q12, ?q13, ?q14, ?q15⟩; (case q1 => k_is); (case q2 => kernel_rfl); (case q3 => kernel_rfl); (case q4 => k_is); (case q5 => k_is); (case q6 => k_is); (case q7 => k_is); (case q8 => k_is); (case q9 => k_is); (case q10 => k_is); (case q11 => k_is); (case q12 => k_is); (case q13 => k_is); (case q14 => k_is); (case q15 => (refine' XJ.xc_mk ?r1 ?r2; (case r1 => k_is); (case r2 => kernel_rfl)))))
    (case h_ea_no => k_is)
    (case h_ea_i => k_is)
    (case h_ea_ty => k_is)
    (case h_ea_f => (refine' XJ.fnF_mk ?q1 ?q2; (case q1 => k_is); (case q2 => k_is)))
    (case h_ea_k => k_is)
    (case h_ea_ex => kernel_rfl)
    (case h_ea_kv => kernel_rfl)
    (case h_z_len => k_is)
    (case h_z_int => k_is)
    (case h_z_list => k_is)
    (case h_z_abs => k_is)
    (case h_z_range => k_is)
    (case h_z_set => k_is)
    (case h_z_all => k_is)
    (case h_z_ord => k_is)
    (case h_z_isinstance => k_is)
    (case h_z_str => k_is)
    (case h_z_max => k_is)
    (case h_z_bool => k_is)
    (case h_z_repr => k_is)
    (case h_z_ValueError => k_is)
    (case h_z_sum => k_is)
    (case h_z_min => k_is)
    (case h_y0 => k_is)
    (case h_y1 => k_is)
    (case h_y2 => k_is)
    (case h_y3 => k_is)
    (case h_y4 => k_is)
    (case h_y5 => k_is)
    (case h_y6 => k_is)
end
