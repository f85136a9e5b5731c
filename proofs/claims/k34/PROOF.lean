import PyProof.Rows.All
import Wide.All
import OpenK.AllK
import Wide.FinOn
import HandS.ForMost
import HandS.Wide
import HandS.IsInst
import HandS.EndBits
import HandS.ExcInit
import HandS.ExcIs
import HandS.ExcField
import HandS.ExcValue
import PyProof.ExcBaseAll.OverflowError
import PyProof.ExcBaseAll.LookupError
import PyProof.ExcBaseAll.ValueError
import HandS.TupAny
import HandS.Walk
import HandS.TupMul
import PyProof.ReprRoads
import HandS.Lambda
import HandS.EndTab
import HandS.HotCalls
import HandS.TryMany
import PyProof.ReprLen
import HandS.MakeKwOnly
import HandS.Property
import HandS.FStr
import HandS.SlotsOwn
import HandS.WordsExc
import KE.KNestM
import HandS.Conv
import HandS.Style
import HandS.TryOnly
import HandS.RaiseMore
import HandS.Iter
import HandS.Dict
import HandS.More
import KE.KOpsOwn
import PySem.Challenge.RW_handlesagain_k34_notes
set_option Elab.async false
set_option maxRecDepth 100000
set_option maxHeartbeats 2000000
namespace PySem
namespace ExK
open PySem.W PySem.Calls PyProof.Rows PySem.HandSPX
open Builtin Builtin.ObjectAttr
/-! ### an own exception class called with keywords -/
section
variable {M : Model} {A : Around} {E : Value → Shared → Prop} {h : Heap} {g : Array GenState} {d : Drawn} {t : Nat} {os : OsState}
  {nm q : Str} {C N : Addr} {bs bm bmB : List Value} {hdct : Bool} {sn : List Str} {sub : List Value} {ab : Bool} {col : Option Bool} {dd : Option Addr}
  {k0 k1 k2 k3 k5 : Option Value} {B newId initId : String} {xs : List Value} {kw : List (Str × Value)}
/-- bm has the built-in classes of bmB, and no other -/
def SameB (bm bmB : List Value) : Prop := ∀ X : String, bm.contains (.type X) = bmB.contains (.type X)
/-- the class at C -/
def ClsAt (h : Heap) (nm q : Str) (C N : Addr) (bs bm : List Value) (hdct : Bool) (sn : List Str) (sub : List Value) (ab : Bool) (col : Option Bool) (dd : Option Addr) (k0 k1 k2 k3 k5 : Option Value) (newId : String) : Prop :=
  h.get? C = some (excClassObj nm q C N bs bm hdct sn sub ab col dd k0 k1 k2 k3 k5 newId)
theorem sub_of (hT : SameB bm bmB) (X : String) : (Value.ref C :: bm).contains (.type X) = bmB.contains (.type X) := by
  rw [List.contains_cons, hT X]
  rfl
theorem ck_new (F : ExcBaseFacts B newId initId bmB) (hT : SameB bm bmB) {Q : Unit → Shared → Prop} (hC : ClsAt h nm q C N bs bm hdct sn sub ab col dd k0 k1 k2 k3 k5 newId)
    (hq : Q () ⟨h, g, d, t, os⟩) : wpAny M A (checkBuiltinCall newId ⟨.ref C :: xs, kw⟩) Q E ⟨h, g, d, t, os⟩ := by
  have e1 : (Value.ref C :: bm).contains (.type B) = true := (sub_of hT B).trans F.hasB
  have z9 := F.noStar
  unfold ClsAt at hC
  simp only [checkBuiltinCall, F.newKind, F.newSplit, F.newRow]
  repeat (first
    | refine wpAny_loadPart_at hC ?_
    | (refine wpAny_isSubtype_exc hC ?_
       rw [e1])
    | refine wpAny_staticBase_exc hC ?_
    | refine wpAny_madeBy_exc hC ?_
    | simp only [bne_self_eq_false, Bool.false_eq_true, if_false]
    | wp_step)
  exact hq
end
section
variable {prog : Program} {w : World} {A : Around} {E : Value → Shared → Prop} {R : Result → Shared → Prop} {h : Heap} {g : Array GenState} {d : Drawn} {t : Nat} {os : OsState}
  {nm q : Str} {C N : Addr} {bs bm bmB : List Value} {hdct : Bool} {sn : List Str} {sub : List Value} {ab : Bool} {col : Option Bool} {dd : Option Addr}
  {k0 k1 k2 k3 k5 : Option Value} {B newId initId : String} {xs : List Value} {kw : List (Str × Value)}
theorem nw_kw (F : ExcBaseFacts B newId initId bmB) (hT : SameB bm bmB) (hC : ClsAt h nm q C N bs bm hdct sn sub ab col dd k0 k1 k2 k3 k5 newId)
    (hq : R (.ok (.ret (.ref (h.objs.size + 1)))) ⟨(h.push (W.kdv_tup xs)).push (excO C h.objs.size), g, d, t, os⟩) (hl : xs.length ≤ sizeLine) :
    codeAny (model prog w) A (.builtin newId ⟨.ref C :: xs, kw⟩) R ⟨h, g, d, t, os⟩ := by
  have z0 := F.ends
  have z1 : (Value.ref C :: bm).contains (.type B) = true := (sub_of hT B).trans F.hasB
  have z2 : (Value.ref C :: bm).contains (.type "AttributeError") = false := (sub_of hT _).trans F.noAttr
  have z3 : (Value.ref C :: bm).contains (.type "NameError") = false := (sub_of hT _).trans F.noName
  unfold ClsAt at hC
  apply codeAny_builtinAt F.entry
  unfold Builtin.«BaseException.__new__»
  apply wpAt_bind
  show wpAt _ _ _ (stack >>= _) _ _ _
  refine wpAt_bind (wpAt_stack fun p below => wpAt_of_wpAny ?_)
  wp_walk
  apply wpAt_of_wpAny
  rw [F.owner]
  repeat (first
    | with_reducible refine wpAny_madeHere_exc F.canon hC ?_
    | with_reducible refine wpAny_loadPart_at hC ?_
    | (with_reducible refine wpAny_isSubtype_exc hC ?_
       first | rw [z1] | rw [z2] | rw [z3])
    | wp_step)
  show R _ _
  rw [Heap.size_push]
  exact hq
theorem ck_call {M : Model} {Q : Unit → Shared → Prop} (hC : ClsAt h nm q C N bs bm hdct sn sub ab col dd k0 k1 k2 k3 k5 newId) (hq : Q () ⟨h, g, d, t, os⟩) :
    wpAny M A (checkBuiltinCall "type.__call__" ⟨.ref C :: xs, kw⟩) Q E ⟨h, g, d, t, os⟩ := by
  have z0 := tc_sub
  unfold ClsAt at hC
  have z1 : (⟨h, g, d, t, os⟩ : Shared).TypeIs (.ref C) "type" := ⟨_, hC, rfl⟩
  simp only [checkBuiltinCall, tc_kind, tc_split]
  repeat (any_goals (first
    | assumption
    | with_reducible refine wpAny_loadPart_at hC ?_
    | with_reducible refine wpAny_onRaise ?_
    | with_reducible refine wpAny_map ?_
    | wp_step))
/-- what __init__ hands back is None -/
def BackI (a : Addr) (E : Value → Shared → Prop) (Q : Fin → Shared → Prop) : Result → Shared → Prop := fun r s' => match r with
  | .ok (.ret v) => v = .none ∧ Q (.done (.ret (.ref a))) s'
  | .ok _ => False
  | .error e => E e s'
theorem tc_kw {fI : Addr} {Q : Fin → Shared → Prop} (F : ExcBaseFacts B newId initId bmB) (hT : SameB bm bmB) (hC : ClsAt h nm q C N bs bm hdct sn sub ab col dd k0 k1 k2 k3 k5 newId)
    (hi : W.Looks (model prog w) h (typeLookup (.ref C) "__init__") (some (.ref fI))) (hb : ∀ v, W.Looks (model prog w) h (bindSpecial (.ref fI) v) (.ref fI, [v])) (hl : xs.length ≤ sizeLine)
    (hq : codeAny (model prog w) A (.call (.ref fI) ⟨.ref (h.objs.size + 1) :: xs, kw⟩) (BackI (h.objs.size + 1) E Q) ⟨(h.push (W.kdv_tup xs)).push (excO C h.objs.size), g, d, t, os⟩) :
    wpAny (model prog w) A (Builtin.«type.__call__» ⟨.ref C :: xs, kw⟩) Q E ⟨h, g, d, t, os⟩ := by
  have hC0 := hC
  unfold ClsAt at hC
  repeat (first
    | with_reducible refine wpAny_loadPart_at hC ?_
    | with_reducible refine wpAny_madeBy_exc hC ?_
    | wp_step)
  apply codeAny_call_builtin_code (Code.quiet_builtin _ F.quiet) (ck_new F hT hC0 _)
  refine nw_kw F hT hC0 ?_ hl
  show wpAny _ _ _ _ _ _
  have kp : ∀ b o, h.get? b = some o → ((h.push (W.kdv_tup xs)).push (excO C h.objs.size)).get? b = some o := fun b o e =>
    Heap.get?_push_of_some _ (Heap.get?_push_of_some _ e)
  have y1 := kp _ _ hC
  have y2 : ((h.push (W.kdv_tup xs)).push (excO C h.objs.size)).get? (h.objs.size + 1) = some (excO C h.objs.size) := by
    heap_get
  have y3 : (Value.ref C :: bm).contains (.ref C) = true := by
    simp
  have y4 := hi.keeps kp
  have y5 := (hb (.ref (h.objs.size + 1))).keeps kp
  unfold isInstance
  repeat (first
    | with_reducible refine wpAny_loadPart_at y2 ?_
    | (with_reducible refine wpAny_isSubtype_exc y1 ?_
       rw [y3])
    | wp_step)
  show wpAny _ _ (typeLookup (.ref C) _) _ _ _
  refine y4.at ?_
  refine wpAny_holding (wpAny_bind (y5.at ?_))
  refine wpAny_bind (wpAny_call (codeAny_mono hq fun r s' z => ?_))
  cases r with
  | error e => exact z
  | ok fl =>
    cases fl with
    | ret v =>
      obtain ⟨rfl, z⟩ := z
      first
        | exact wpAny_pure (wpAny_pure z)
        | (wp_walk
           exact z)
    | next => exact z.elim
    | brk => exact z.elim
    | cont => exact z.elim
theorem own_kw {fI : Addr} (F : ExcBaseFacts B newId initId bmB) (hT : SameB bm bmB) (hC : ClsAt h nm q C N bs bm hdct sn sub ab col dd k0 k1 k2 k3 k5 newId)
    (hi : W.Looks (model prog w) h (typeLookup (.ref C) "__init__") (some (.ref fI))) (hb : ∀ v, W.Looks (model prog w) h (bindSpecial (.ref fI) v) (.ref fI, [v])) (hl : xs.length ≤ sizeLine)
    (hq : codeAny (model prog w) (A.under (.builtin "type.__call__" ⟨.ref C :: xs, kw⟩)) (.call (.ref fI) ⟨.ref (h.objs.size + 1) :: xs, kw⟩) (W.InitBack (h.objs.size + 1) R)
      ⟨(h.push (W.kdv_tup xs)).push (excO C h.objs.size), g, d, t, os⟩) :
    codeAny (model prog w) A (.call (.ref C) ⟨xs, kw⟩) R ⟨h, g, d, t, os⟩ := by
  have x1 := tc_lookup
  have x2 := tc_bind (.ref C)
  have hC0 := hC
  unfold ClsAt at hC
  have x3 : (⟨h, g, d, t, os⟩ : Shared).TypeIs (.ref C) "type" := ⟨_, hC, rfl⟩
  apply codeAny_of_tree
  show wpAny _ _ (callAny (.ref C) _) _ _ _
  repeat (any_goals (first
    | assumption
    | with_reducible refine wpAny_loadPart_at hC ?_
    | wp_step))
  refine ⟨rfl, ?_⟩
  refine codeAny_call_builtin_at (Code.quiet_builtin _ (by decide +kernel)) entry_typeCall (ck_call hC0 (tc_kw F hT hC0 hi hb hl ?_))
  refine codeAny_mono hq fun r s' z => ?_
  rcases r with e | (v | _ | _ | _) <;> exact z
end
/-! ### self.f = v on such an exception -/
def MroOk (l : List Value) : Prop := (∀ v, refuseLoop v "__setattr__" l = pure ()) ∧ l.isEmpty = false ∧ l.contains (.type "object") = true
section
variable {prog : Program} {w : World} {A : Around} {E : Value → Shared → Prop} {R : Result → Shared → Prop} {hp : Heap} {g : Array GenState} {d : Drawn} {t : Nat} {os : OsState}
theorem st_gen {K : W.Frag} {f : Str} {tk : Tok} {v : Value} {x C : Addr} {fv : Array Value} {cd : ClassData} (X : K.In hp) (hx : hp.get? x = some { cls := .ref C, data := .fields fv })
    (hcd : W.clsIn K C = some cd) (hm : MroOk cd.mro) (hh : cd.hasDict = true) (ha : W.findIn K (.ref C) f = some none)
    (hq : ∀ h' tk' dx, (∀ b o, b ≠ x → hp.get? b = some o → h'.get? b = some o) → hp.objs.size ≤ dx → dx ≠ x → h'.get? x = some { cls := .ref C, dict := some dx, data := .fields fv } →
      h'.Ns1 dx (fun y => if y = f then some v else none) → R (.ok (.ret .none)) ⟨h', g, d, tk', os⟩) :
    codeAny (model prog w) A (.call (.builtin "object.__setattr__") ⟨[.ref x, .str f tk, v], []⟩) R ⟨hp, g, d, t, os⟩ := by
  obtain ⟨m1, m2, m3⟩ := hm
  have J : W.InstAt hp x { cls := .ref C, data := .fields fv } C none := ⟨hx, rfl, rfl, trivial⟩
  have S := F.store_object
  have nx : x ≠ hp.objs.size := Nat.ne_of_lt (Heap.lt_size hx)
  have e0 : W.mroIn K C (.type "object") = some true := by
    unfold W.mroIn
    rw [hcd, Option.bind_some, if_neg (by rw [m2]; decide), m3]
  have e1 : W.Looks (model prog w) hp (isInstance (.ref x) (.type "object")) true :=
    J.type.andThen (W.looks_mroIn X e0)
  have e2 : W.Looks (model prog w) hp (mroOf (.ref C)) cd.mro := (W.looks_clsIn X hcd).andThen .now
  have e3 : W.Looks (model prog w) hp (storeTaker? none) none := .now
  have e4 : W.Looks (model prog w) hp (classData C) cd := W.looks_clsIn X hcd
  refine codeAny_call_builtin S.slot.plain S.entry ?_
  refine @W.check_slot (model prog w) _ _ ⟨hp, g, d, t, os⟩ "object.__setattr__" "object" "__setattr__" (.ref x) [.str f tk, v] [] _ S.kind S.split e1 (S.args (.ref x) (.str f tk) v) ?_
  rw [W.osa_eq, refuse_eq]
  refine wpAny_bind (wpAny_bind (J.type.at (wpAny_bind (e2.at ?_))))
  rw [m1]
  refine wpAny_pure (wpAny_bind (J.type.at (wpAny_bind ?_)))
  refine (W.looks_findIn X ha).at (wpAny_bind (e3.at ?_))
  show wpAny _ _ (storeInOwnDict (.ref x) (.ref C) (.str f tk) f v false) _ _ _
  obtain ⟨nm, bs, mro, ns, qn, hd, sn, sb, ab, col, del⟩ := cd
  dsimp only at hh
  subst hh
  unfold storeInOwnDict ownDictForStores
  repeat (first
    | with_reducible refine store_in_new ?_ ?_
    | with_reducible refine wpAny_loadPart_at hx ?_
    | with_reducible refine e4.at ?_
    | wp_step)
  · have y : (hp.push { cls := .type "dict", data := .dict #[] }).get? hp.objs.size = _ := Heap.get?_push_at rfl rfl
    exact ⟨_, #[], _, (Heap.get?_update_ne _ _ _ _ nx.symm).trans y, rfl, fun e he => absurd he (by simp), fun _ => rfl⟩
  · intro h' tk' hn' hs
    have y : (hp.push { cls := .type "dict", data := .dict #[] }).get? x = some { cls := .ref C, data := .fields fv } :=
      Heap.get?_push_of_some _ hx
    refine hq h' tk' hp.objs.size (fun b o hb ho => ?_) (Nat.le_refl _) nx.symm ?_ hn'
    · have z := Heap.get?_push_of_some { cls := .type "dict", data := .dict #[] } ho
      exact (hs.2 b (Nat.ne_of_lt (Heap.lt_size ho))).trans ((Heap.get?_update_ne _ _ _ _ hb).trans z)
    · exact (hs.2 x nx).trans (Heap.get?_update_self _ y rfl)
end
end ExK
namespace W
open PySem PySem.Spec PySem.Calls PyProof.Rows
section
variable {prog : Program} {w : World} {A : Around} {E : Value → Shared → Prop} {s : Shared} {K : Frag} {x D : Addr} {ox : Obj} {od : Option Obj}
/-- x.__class__, x an exception, with a dict or without -/
theorem exk_class {Q : Option Value → Shared → Prop} (ga : findIn K (.ref D) "__getattribute__" = some (some (.builtin "BaseException.__getattribute__")))
    (gg : findIn K (.ref D) "__getattr__" = some none) (sb : subIn K (.ref D) (.type "BaseException") = some true) (hf : findObj K D od "__class__" = some (.bind (.builtin "getset_descriptor.__get__") (.builtin "object.__class__")))
    (hm : mroIn K D (.type "object") = some true) (X : K.In s.heap) (I : InstAt s.heap x ox D od) (h : Q (some (.ref D)) { s with toks := s.toks + 1 }) :
    wpAny (model prog w) A (getAttr? (.ref x) "__class__") Q E s := by
  obtain ⟨hp, g, d, t, os⟩ := s
  have l0 := I.type (M := model prog w)
  have l1 := looks_findIn (M := model prog w) X ga
  have l2 := looks_findIn (M := model prog w) X gg
  have l3 := looks_find (M := model prog w) X I hf
  have l4 : Looks (model prog w) hp (isInstance (.ref x) (.type "BaseException")) true :=
    l0.andThen (looks_subIn X sb)
  have b0 : (false && onTheHeap (Value.builtin "BaseException.__getattribute__")) = false := rfl
  have b1 : (onTheHeap (Value.ref D) && Value.builtin "BaseException.__getattribute__" == Value.builtin "object.__getattribute__") = false := by
    rw [show (Value.builtin "BaseException.__getattribute__" == Value.builtin "object.__getattribute__") = false by decide +kernel]
    rfl
  unfold getAttr? getAttrBy? getAttrBy
  refine wpAny_bind (wpAny_mkText (wpAny_bind (wpAny_attempt ?_)))
  refine wpAny_holding (wpAny_bind (l0.at (wpAny_bind (l1.at ?_))))
  show wpAny _ _ (if (onTheHeap (Value.ref D) && Value.builtin "BaseException.__getattribute__" == Value.builtin "object.__getattribute__") = true
    then _ else _) _ _ _
  rw [b1, if_neg Bool.false_ne_true]
  unfold getAttrByItsOwn hookBefore
  apply wpAny_bind
  rw [if_pos (show onTheHeap (Value.ref D) = true from rfl)]
  apply l2.at
  apply wpAny_bind
  refine wpAny_attempt (wpAny_holding ?_)
  unfold callGetattribute
  rw [b0, if_neg Bool.false_ne_true]
  unfold boundAndCalled
  rw [PySem.F.excAttr_ValueError.ga.bind (.ref x)]
  refine wpAny_bind (wpAny_pure ?_)
  show wpAny _ _ (call (.builtin "BaseException.__getattribute__")
    [.ref x, .str "__class__" t]) _ _ _
  apply wpAny_call
  apply codeAny_call_builtin PySem.F.excAttr_ValueError.ga.plain PySem.F.entry_bexc_ga
  refine @check_slot (model prog w) _ _ ⟨hp, g, d, t + 1, os⟩ "BaseException.__getattribute__" "BaseException" "__getattribute__" (.ref x)
    [.str "__class__" t] [] _ (by decide +kernel) (by decide +kernel) l4 (PySem.F.args_bexc_ga (.ref x) (.str "__class__" t)) ?_
  unfold Builtin.«object.__getattribute__»
  refine wpAny_bind (wpAny_of_eq (a := ((Value.ref x : Value), [Value.str "__class__" t])) (by
    first
      | rfl
      | (simp only [slotArgs]
         rfl)) ?_)
  refine wpAny_bind (wpAny_pure (wpAny_bind (l0.at ?_)))
  refine wpAny_bind (l3.at ?_)
  show wpAny _ _ (holding [Value.builtin "object.__class__"]
    (call (.builtin "getset_descriptor.__get__") [.builtin "object.__class__", .ref x, .ref D]) >>= ret) _ _ _
  refine wpAny_bind (wpAny_holding (wpAny_call ?_))
  refine class_get (s := ⟨hp, g, d, t + 1, os⟩) (ox := ox) (od := od) X I hm ?_
  apply wpAny_pure
  show wpAny _ _ (handedOut (.ref D)) _ _ _
  rw [handedOut_of (v := .ref D) rfl]
  first
    | exact wpAny_pure (wpAny_pure h)
    | exact wpAny_pure h
    | exact wpAny_pure (wpAny_bind (wpAny_pure (wpAny_pure h)))
theorem exk_kit (ga : findIn K (.ref D) "__getattribute__" = some (some (.builtin "BaseException.__getattribute__"))) (gg : findIn K (.ref D) "__getattr__" = some none)
    (sb : subIn K (.ref D) (.type "BaseException") = some true) (hd : hasDictIn K D = true) (hf : findObj K D od "__class__" = some (.bind (.builtin "getset_descriptor.__get__") (.builtin "object.__class__")))
    (hm : mroIn K D (.type "object") = some true) : KitX K (.ref x) (.ref D) (fun h => InstAt h x ox D od) := by
  have there : ∀ h : Heap, K.In h → ∃ o : Obj, h.get? D = some o ∧ (∀ its n, o.data ≠ .seq its n) ∧ ∃ cd, o.data = .cls cd := fun h X => by
    obtain ⟨cd, hc, _⟩ := any_some hd
    unfold clsIn at hc
    split at hc
    · rename_i ho
      exact ⟨_, X _ _ ho, fun _ _ z => (nomatch z), _, rfl⟩
    · cases hc
  refine ⟨fun _ _ _ I => I.type, fun M h X _ => ?_, fun h tp dd its n sl X htp => ?_, fun X I k => exk_class ga gg sb hf hm X I k⟩
  · obtain ⟨o, ho, _, cd, hcd⟩ := there h X
    obtain ⟨oc, odd, oda, osl⟩ := o
    dsimp only at hcd
    subst hcd
    intro A' Q' E' s' k q
    unfold isType loadHead
    exact wpAny_bind (wpAny_loadPart (k _ _ ho) (wpAny_pure q))
  · refine Bool.eq_false_iff.mpr fun q => ?_
    obtain rfl : D = tp := Value.ref.inj (beq_iff_eq.mp q)
    obtain ⟨o, ho, hn, _⟩ := there h X
    rw [ho] at htp
    cases htp
    exact hn _ _ rfl
end
end W
end PySem
namespace L2
open PySem PySem.Spec PyProof.Rows PySem.ExK
/-- what the written part says of an own exception class at C, of whatever base -/
structure ExvC (K : PySem.W.Frag) (C : Addr) : Prop where
  cls : ∃ nm q N bs bm sn sub ab col dd k0 k1 k2 k3 k5 B newId initId bmB, K.lookup C = some (excClassObj nm q C N bs bm true sn sub ab col dd k0 k1 k2 k3 k5 newId) ∧
    ExcBaseFacts B newId initId bmB ∧ SameB bm bmB ∧ MroOk (.ref C :: bm)
  sa : PySem.W.findIn K (.ref C) "__setattr__" = some (some (.builtin "object.__setattr__"))
  kC : PySem.W.keepIn K (.ref C) = true
section
variable {X : Cx} {pins : List (Addr × Obj)} {σ : St} {H : Hp} {s : Shared} {a C dx : Addr} {f : Str} {y : V} {u : Value}
theorem st_ex (T : ExvC X.K C) (I : Inv X pins σ H s) (e : H a = some (exo a C none)) (hno : PySem.W.findIn X.K (.ref C) f = some none) (ry : RelV y u) {A : Around} {Q : Unit → Shared → Prop} {E : Value → Shared → Prop}
    (h : ∀ dx s', H dx = none → dx ≠ a → Inv X pins σ (upd (upd H dx (exd dx [(f, y)])) a (exo a C (some dx))) s' → Q () s') : wpAny (model X.prog X.w) A (setAttr (.ref a) f u) Q E s := by
  obtain ⟨nm, q, N, bs, bm, sn, sub, ab, col, dd, k0, k1, k2, k3, k5, B, newId, initId, bmB, hC, FB, hS, hM⟩ := T.cls
  obtain ⟨cd, hcd, c1, c2⟩ : ∃ cd : ClassData, PySem.W.clsIn X.K C = some cd ∧ cd.mro = .ref C :: bm ∧ cd.hasDict = true := by
    unfold PySem.W.clsIn
    rw [hC]
    exact ⟨_, rfl, rfl, rfl⟩
  obtain ⟨t1, ho⟩ := exo_at I.hok e
  obtain ⟨hp, g, d, t, os⟩ := s
  have J : PySem.W.InstAt hp a ({ cls := .ref C, dict := none, data := .fields #[.ref t1, .none, .none, .none, .bool false, .none] } : Obj) C none := ⟨ho, rfl, rfl, trivial⟩
  refine PySem.W.set_plain I.kIn J T.sa (st_gen I.kIn ho hcd (by rw [c1]; exact hM) c2 hno fun h' tk' dx k dn dne hx hn => ?_)
  have hnd : H dx = none := I.hok.fresh dn
  have n1 : ∀ {b : Addr} {o : Obj}, hp.get? b = some o → b ≠ dx := fun {b o} q =>
    Nat.ne_of_lt (Nat.lt_of_lt_of_le (Heap.lt_size q) dn)
  have n2 : ∀ {b : Addr}, H b = none → b ≠ a := fun {b} n z => by
    rw [z, e] at n
    cases n
  have stay : ∀ {b : Addr} {o : HO}, H b = some o → exo a C none ≠ o → (upd (upd H dx (exd dx [(f, y)])) a (exo a C (some dx))) b = some o := fun {b o} q n => by
    rw [upd_ne (at_ne e q n), upd_ne (ne_of_none q hnd)]
    exact q
  have U : Un X.fs [] H (upd (upd H dx (exd dx [(f, y)])) a (exo a C (some dx))) hp h' := {
    keep := fun b o q n _ _ => k b o (n2 n) q
    slot := fun b o q n _ _ => ⟨o.slots, k b o (n2 n) q⟩
    free := fun b o q n _ => by
      rw [upd_ne (n2 n), upd_ne (n1 q)]
      exact n
    there := fun b o q _ => by
      by_cases hb : b = a
      · subst hb
        exact ⟨_, hx⟩
      · exact ⟨o, k b o hb q⟩
    tups := fun b xs q => stay q exo_tup
    frzs := fun b o v q => stay q exo_frz
    tbls := fun b ps q => ⟨#[], by rw [stay q exo_tbl]; simp⟩ }
  refine h dx _ hnd dne (I.un (t' := tk') U fun b o q => ?_)
  by_cases hb : b = a
  · subst hb
    rw [upd_same] at q
    cases q
    exact exo_ok hx
  rw [upd_ne hb] at q
  by_cases hd : b = dx
  · subst hd
    rw [upd_same] at q
    cases q
    exact exd_ok hn (relO_put (fs := []) ry fun g => True.intro)
  rw [upd_ne hd] at q
  refine (I.hok b o q).stay (fun c v hc z => k c v (fun e2 => ?_) z) (fun c hc => stay hc exo_own) (fun c xs hc => stay hc exo_tup)
  rcases hc with hc | hc
  · exact hb (hc.symm.trans e2)
  · exact at_ne e hc exo_own e2
/-- self.f = e, self an exception that has no field yet -/
def tStx (K : PySem.W.Frag) (f : Str) (to te : TE) : TS := fun D σ H => te σ H fun y H1 => to σ H1 fun x H2 => ∃ a C : Addr, x = .ref a ∧ ExvC K C ∧ PySem.W.findIn K (.ref C) f = some none ∧
  H2 a = some (exo a C none) ∧ ∀ dx, H2 dx = none → dx ≠ a → D.nx σ (upd (upd H2 dx (exd dx [(f, y)])) a (exo a C (some dx)))
end
section
variable {X : Cx} {o e : Expr} {es : List Expr} {to te : TE} {ta tk : TA} {f : Str} {p p' pos : Pos}
theorem ps_stx (ho : PE X o to) (he : PE X e te) (hs : swapsWith e (some (.Attribute o f p')) pos.line X.env = pure false := by rfl) :
    PS X (.Assign [.Attribute o f p'] e pos) (tStx X.K f to te) := by
  constructor
  intro pins s σ H D I h
  refine plainObj_wpAny_Assign_Attribute (thn (he.run pins s σ H _ I h) fun v s1 ⟨y, H1, I1, r1, q1⟩ => ?_) hs
  refine thn (ho.run pins s1 σ H1 _ I1 q1) fun u s2 ⟨x, H2, I2, r2, a, C, ex, T, hno, ea, q⟩ => ?_
  subst ex
  obtain rfl : u = Value.ref a := r2
  exact st_ex T I2 ea hno r1 fun dx s' n ne J => ⟨σ, _, J, q dx n ne⟩
/-- the making: us, the positional values; kw, the keywords; ws, what the parameters get -/
theorem run_ex {pins : List (Addr × Obj)} {σ : St} {H1 : Hp} {s1 : Shared} {Q : VK} {C fI : Addr} {k : Nat} {fd : FuncData} {ps : List Str} {sp : Sp} {CX : CXT} (T : ExvC X.K C) (iC : PySem.W.findIn X.K (.ref C) "__init__" = some (some (.ref fI)))
    (tI : PySem.W.typeIn X.K (.ref fI) = some (.type "function")) (F1 : FnOk X.prog X.w X.K X.mg X.base CX k fI fd ps sp) (hr : Room (k + 1) X.A) (hx : Passes CX X (fun _ _ _ => False)) (I1 : Inv X pins σ H1 s1)
    {us ws : List Value} {vs : List V} {kw : List (Str × Value)} (hl : us.length ≤ 1000) (rv : Vals vs ws) (hb : ∀ (s : Shared) (r : Value), BindsTo s fd ⟨r :: us, kw⟩ (ps.zip (r :: ws)))
    (h : ∀ a, H1 a = none → sp (.ref a :: vs) (upd H1 a (exo a C none)) (fun v H2 => v = .non ∧ Q (.ref a) H2) (fun _ _ _ => False)) :
    wpAny (model X.prog X.w) X.A (call (.ref C) us kw) (EP X pins σ Q) X.xe s1 := by
  obtain ⟨nm, q, N, bs, bm, sn, sub, ab, col, dd, k0, k1, k2, k3, k5, B, newId, initId, bmB, hC, FB, hS, hM⟩ := T.cls
  obtain ⟨hp, g, dr, tk, os⟩ := s1
  have z1 : hp.objs.size ≤ hp.objs.size + 1 := Nat.le_succ _
  have hq := h (hp.objs.size + 1) (I1.hok.fresh z1)
  have kk : ∀ b o, hp.get? b = some o → ((hp.push (PySem.W.kdv_tup us)).push (PySem.HandSPX.excO C hp.objs.size)).get? b = some o := fun b o e =>
    Heap.get?_push_of_some _ (Heap.get?_push_of_some _ e)
  have z2 : ((hp.push (PySem.W.kdv_tup us)).push (PySem.HandSPX.excO C hp.objs.size)).get? (hp.objs.size + 1) = some (PySem.HandSPX.excO C hp.objs.size) := by
    heap_get
  have I2 : Inv X pins σ (upd H1 (hp.objs.size + 1) (exo (hp.objs.size + 1) C none)) ⟨(hp.push (PySem.W.kdv_tup us)).push (PySem.HandSPX.excO C hp.objs.size), g, dr, tk, os⟩ :=
    I1.laid (t' := tk) (a := hp.objs.size + 1) (o := exo (hp.objs.size + 1) C none) kk z1 (exo_ok z2)
  have r2 : Vals (V.ref (hp.objs.size + 1) :: vs) (Value.ref (hp.objs.size + 1) :: ws) := .cons rfl rv
  have hus : us.length ≤ sizeLine := Nat.le_trans hl (by decide)
  have run := F1.run _ X.stack _ _ ⟨Value.ref (hp.objs.size + 1) :: us, kw⟩ (Value.ref (hp.objs.size + 1) :: ws) _ _ (fun _ _ _ => False) (hr.make C us kw) (I2.env0.make C us kw) (hb _ _) r2 hq
  refine wpAny_call (own_kw FB hS (I1.kIn _ _ hC) (PySem.W.looks_findIn I1.kIn iC) (fun v => PySem.W.bind_fn I1.kIn v tI) hus (codeAny_mono run fun r s' hq' => ?_))
  cases r with
  | error er => exact hx pins σ _ _ er s' I2 hq'
  | ok fl =>
    cases fl with
    | ret u =>
      obtain ⟨v, H', I3, rv, ev, q3⟩ := I2.after hq'
      subst ev
      exact ⟨rv, ⟨V.ref (hp.objs.size + 1), H', I3, rfl, q3⟩⟩
    | next => exact False.elim hq'
    | brk => exact False.elim hq'
    | cont => exact False.elim hq'
/-- C(e, ..) | C(k = e, ..): an own exception with its own __init__, as a value -/
def tExv (C : Addr) (sp : Sp) (ta : TA) : TE := fun σ H Q => ta σ H fun vs H1 => vs.length = 1 ∧ ∀ a, H1 a = none → sp (.ref a :: vs) (upd H1 a (exo a C none)) (fun v H2 => v = .non ∧ Q (.ref a) H2) (fun _ _ _ => False)
variable {CX : CXT} {x : Str} {C fI : Addr} {k : Nat} {fd : FuncData} {ps : List Str} {sp : Sp}
theorem pe_exv (T : ExvC X.K C) (iC : PySem.W.findIn X.K (.ref C) "__init__" = some (some (.ref fI))) (tI : PySem.W.typeIn X.K (.ref fI) = some (.type "function")) (F1 : FnOk X.prog X.w X.K X.mg X.base CX k fI fd ps sp)
    (hr : Room (k + 1) X.A) (hb : ∀ (s : Shared) (r u : Value), BindsTo s fd ⟨[r, u], []⟩ (ps.zip [r, u])) (hx : Passes CX X (fun _ _ _ => False)) (hg : Gl X x) (hm : X.mg x = some (.ref C)) (ha : PA X [e] ta)
    (hdb : (x == ("__debug__" : Str)) = false := by decide) (he : starEach [e] X.env = (false, eval e X.env) :: starEach [] X.env := by rfl) (hpl : (backTo pos (starEach [] X.env)).any (·.1) = false := by rfl) :
    PE X (.Call (.Name x p) [e] [] pos) (tExv C sp ta) := by
  constructor
  intro pins s σ H Q I h
  refine wpAny_Call_Name_kw (ld_glob I hg hm ?_ hdb)
  refine PySem.W.callWith_K (h₀ := X.base) I.ok.mod.kin T.kC (thn (ha.run pos pins s σ H _ I h) fun us s1 ⟨vs, H1, I1, r1, hz, q1⟩ => ⟨I1.kIn, ?_⟩) he hpl
  match vs, hz, r1 with
  | [v], _, r1 =>
    obtain ⟨u, rfl, ru⟩ := vals1 r1
    exact run_ex (us := [u]) T iC tI F1 hr hx I1 (show 1 ≤ 1000 by decide) r1 (fun s r => hb s r u) q1
theorem pe_exvK {kws : List Keyword} {kn : Str} (T : ExvC X.K C) (iC : PySem.W.findIn X.K (.ref C) "__init__" = some (some (.ref fI))) (tI : PySem.W.typeIn X.K (.ref fI) = some (.type "function")) (F1 : FnOk X.prog X.w X.K X.mg X.base CX k fI fd ps sp)
    (hr : Room (k + 1) X.A) (hb : ∀ (s : Shared) (r u : Value), BindsTo s fd ⟨[r], [(kn, u)]⟩ (ps.zip [r, u])) (hx : Passes CX X (fun _ _ _ => False)) (hg : Gl X x) (hm : X.mg x = some (.ref C)) (hkw : PK X kws tk)
    (hall : (backToKw pos (keywordEach kws X.env)).all (·.1.isSome) = true := by rfl) (hks : (backToKw pos (keywordEach kws X.env)).filterMap (·.1) = [kn] := by rfl)
    (hdb : (x == ("__debug__" : Str)) = false := by decide) (hpl : ((backTo pos (starEach [] X.env)).any (·.1) || (backToKw pos (keywordEach kws X.env)).any (·.1.isNone)) = false := by rfl) :
    PE X (.Call (.Name x p) [] kws pos) (tExv C sp tk) := by
  constructor
  intro pins s σ H Q I h
  refine wpAny_Call_Name_kw (ld_glob I hg hm ?_ hdb)
  refine PySem.W.callWith_KW0 (h₀ := X.base) I.ok.mod.kin T.kC hall (thn (hkw.run pos pins s σ H _ I h) fun us s1 ⟨vs, H1, I1, r1, hz, q1⟩ => ⟨I1.kIn, ?_⟩) hpl
  rw [hks]
  match vs, hz, r1 with
  | [v], _, r1 =>
    obtain ⟨u, rfl, ru⟩ := vals1 r1
    exact run_ex (us := []) (kw := [(kn, u)]) T iC tI F1 hr hx I1 (by decide) r1 (fun s r => hb s r u) q1
/-- C(), an own exception class without an __init__ of its own -/
theorem pe_exv0 {bmB : List Value} {B newId initId : String} (F : ExcBaseFacts B newId initId bmB) (q : PySem.W.excIn X.K C bmB newId = true) (gC : X.mg x = some (.ref C)) (kC : PySem.W.keepIn X.K (.ref C) = true) (hg : Gl X x)
    (hdb : (x == ("__debug__" : Str)) = false := by decide) : PE X (.Call (.Name x p) [] [] pos) (fun _ H Q => ∀ a, H a = none → Q (.ref a) (upd H a (ExO (.ref C) a))) := by
  constructor
  intro pins s σ H Q I h
  refine wpAny_Call_Name_kw (ld_glob I hg gC ?_ hdb)
  refine PySem.W.callWith_K0 I.kIn kC ?_
  show wpAny _ _ (call (.ref C) []) _ _ _
  obtain ⟨bm, N, nm, qn, bs, hdct, sn, sub, ab, col, dd, k0, k1, k2, k3, k5, mN, hC, hN, hni, T⟩ := exc_obj I.kIn q
  refine wpAny_call_exc_subT F T hC hN hni (fun h' a hm => ?_) (Nat.zero_le _)
  have hn : H a = none := I.hok.gone hm.new
  obtain ⟨t, ht, _, _⟩ := hm.there
  exact ⟨.ref a, upd H a (ExO (.ref C) a), I.laidN hm.keeps hm.new hn (exO_ok ht ⟨rfl, rfl⟩ rfl rfl rfl (show 4 < 6 by decide)), rfl, h a hn⟩
/-- e.f, e an exception that has the field -/
def tFx (K : PySem.W.Frag) (f : Str) (te : TE) : TE := fun σ H Q => te σ H fun x H1 => ∃ (a C d : Addr) (v : V), x = .ref a ∧ XfC K C ∧ PySem.W.findIn K (.ref C) f = some none ∧ H1 a = some (exo a C (some d)) ∧ H1 d = some (exd d [(f, v)]) ∧ Q v H1
theorem pe_fx (he : PE X e te) (hb : attributeBase e f X.env (eval e X.env) = eval e X.env := by rfl) : PE X (.Attribute e f pos) (tFx X.K f te) := by
  constructor
  intro pins s σ H Q I h
  refine attr_of hb (thn (he.run pins s σ H _ I h) fun u s1 hh => ?_)
  obtain ⟨x, H1, I1, rx, a, C, d, v, ex, T, hno, ea, ed, q⟩ := hh
  subst ex
  obtain rfl : u = Value.ref a := rx
  obtain ⟨t1, ho⟩ := exo_at I1.hok ea
  obtain ⟨mA, hns, hr⟩ := exd_at I1.hok ed
  obtain ⟨od, hod, hl⟩ := lookIn_ns hns
  have l : [(f, v)].lookup f = some v := by simp
  obtain ⟨w, hw, rw'⟩ := RelO.some_of (v := v) (o := mA f) (by rw [← l]; exact hr f)
  have J : PySem.W.InstAt s1.heap a _ C (some od) := ⟨ho, rfl, rfl, hod⟩
  exact HandSPX.exc_get I1.kIn J T.ga T.gg T.exC (PySem.W.findObj_own T.hdC hno rfl (by rw [hl, hw])) (handed_of rw') ⟨v, H1, I1.tok _, rw', q⟩
/-- isinstance(e, c), e an exception that stands in H -/
def ExAt (H : Hp) (a C : Addr) : Prop := (∃ d fs, H a = some (exo a C (some d)) ∧ H d = some (exd d fs)) ∨ H a = some (ExO (.ref C) a)
def rIsV (K : PySem.W.Frag) : List V → Hp → VK → Prop := fun xs H Q => ∃ (a C : Addr) (c : V) (u : Value) (b : Bool), xs = [.ref a, c] ∧ ExAt H a C ∧ ExcC K C ∧ ClsV c u ∧ PySem.W.kitOne K (.ref C) u = some b ∧ Q (.bl b) H
theorem call_isV : CallR X (.builtin "isinstance") (rIsV X.K) := by
  intro pins s σ H xs us Q I r h
  obtain ⟨a, C, c, u, b, rfl, ea, hc, k, e, q⟩ := h
  obtain ⟨u1, u2, rfl, r1, r2⟩ := vals2 r
  have e2 := k.eq r2
  subst e2
  cases r1
  have ok : ∀ {od : Option Obj}, PySem.W.findObj X.K C od "__class__" = some (.bind (.builtin "getset_descriptor.__get__") (.builtin "object.__class__")) := fun {od} => by
    obtain ⟨cd, hcd, _⟩ := PySem.W.any_some hc.hd
    have hs : (PySem.W.clsIn X.K C).isSome = true := by
      rw [hcd]
      rfl
    cases od with
    | none => exact PySem.W.findObj_dataN hs hc.ha hc.hn hc.ht
    | some o => exact PySem.W.findObj_data hs hc.ha hc.hn hc.ht
  obtain ⟨oe, od, J⟩ : ∃ oe od, PySem.W.InstAt s.heap a oe C od := by
    rcases ea with ⟨d, fs, ea, ed⟩ | ea
    · obtain ⟨t1, ho⟩ := exo_at I.hok ea
      obtain ⟨mA, hns, _⟩ := exd_at I.hok ed
      obtain ⟨od, hod, _⟩ := lookIn_ns hns
      exact ⟨_, some od, ho, rfl, rfl, hod⟩
    · have z : ObjOk X.prog X.w H s.heap a (ExO (.ref C) a) := I.hok a _ ea
      obtain ⟨⟨oe, vs, h1, ⟨h2, h3⟩, h4, _⟩, _⟩ := z
      exact ⟨oe, none, h1, h2, by unfold PySem.W.notCls; rw [h4], by rw [h3]; trivial⟩
  exact PySem.W.kia_one (PySem.W.exk_kit hc.hg hc.hk hc.hs hc.hd ok hc.hm) I.kIn J e (fun z => nomatch z) fun tk => ⟨.bl b, H, I.tok tk, rfl, q⟩
end
end L2

namespace Toy
open PySem L2 PySem.Spec PyProof.Rows PySem.ExK
def top (i : Nat) : Stmt := PySem.Challenge.pw_handlesagain_k34_notes.main.body.getD i (.Pass ⟨0, 0, 0, 0⟩)
theorem _root_.L2.Same.new {H : Hp} {a : Addr} {o : HO} (h : H a = none) : Same H (upd H a o) := fun b u e => by
  rw [upd_ne (ne_of_none e h)]
  exact e
/-! ### where no repr is under way -/
section
/-- a def's promise, where no repr is under way around the call -/
structure FnG (P : Program) (w : World) (K : PySem.W.Frag) (mg : Str → Option Value) (base : Heap) (CX : CXT) (k : Nat) (f : Addr) (fd : FuncData) (ps : List Str) (sp : Sp) : Prop where
  len : ∀ vs H Q E, sp vs H Q E → vs.length = ps.length
  run : ∀ (A : Around) (outer : List Env) (s : Shared) (H : Hp) (args : Args) (us : List Value) (vs : List V) (Q : VK) (E : XK), A.guards = some [] → Room k A → Env0 P w K mg base A outer s H →
    BindsTo s fd args (ps.zip us) → Vals vs us → sp vs H Q E → codeAny (model P w) A (.call (.ref f) args) (CR CX outer P w H s Q E) s
theorem fnG_ok {P : Program} {w : World} {K : PySem.W.Frag} {mg : Str → Option Value} {base : Heap} {k : Nat} {x qual : Str} {st : Stmt} {f : Addr} {fd : FuncData} {N ps : List Str} {sp : Sp} (F : Fun K x qual st f fd) (S : FnScope N ps (defScope st))
    (len : ∀ vs H Q E, sp vs H Q E → vs.length = ps.length)
    (body : ∀ (cdv : Value) (A : Around) (outer : List Env) (s : Shared) (H : Hp) (vs : List V) (Q : VK) (E : XK), A.guards = some [] → Room k (A.deeper (PyProof.Rows.envOfC qual (defScope st) s.heap.objs.size f cdv)) → sp vs H Q E →
      ∃ t, PSs (cxOf CX0 P w K mg base N qual (defScope st) f cdv A outer s H E).nox (defBody st) t ∧ t { nx := fun _ H' => Q .non H', rt := Q } (start N vs) H) :
    FnG P w K mg base CX0 (k + 1) f fd ps sp := by
  obtain ⟨oc, od, kV, doc, pm, an, cdv, ct, osl, rfl, lk, hcd⟩ := F.ex
  constructor
  · exact len
  intro A outer s H args us vs Q E hg hr e0 hb r hsp
  have hl := len _ _ _ _ hsp
  have old : ∀ b o, base.get? b = some o → s.heap.get? b = some o := fun b o e => (e0.bs b o e).1
  have KX : K.In s.heap := e0.mod.kin.keeps old
  have kinds : ∀ y ∈ ps.zip us, (defScope st).names.lookup y.1 = some .local ∨
      ((defScope st).names.lookup y.1 = some .cell ∧ ((cellsFrom (s.heap.objs.size + 1) (defScope st).names []).lookup y.1).isSome = true) := by
    rintro ⟨n, v⟩ hy
    have q := S.par n (List.of_mem_zip hy).1
    refine q.imp id fun q => ⟨q, ?_⟩
    exact PySem.W.cellsFrom_some _ _ _ (.inl q)
  refine codeAny_call_function hr.depth (KX _ _ lk) rfl S.co S.gen rfl (PySem.W.codeRec_of KX hcd) (hb _ _ _ _ ?_)
  refine wpAny_newFunctionEnv_cells S.kind kinds fun env he s1 z => ?_
  subst he
  refine ⟨(e0.mod.nolimit.keeps old).keeps z.toInCall.keep, PySem.codeAny_func ?_⟩
  obtain ⟨t, ht, hq⟩ := body cdv A outer s H vs Q E hg (hr.deeper _) hsp
  have I := inv_start (CX := CX0) (E := E) (cd := cdv) (f := f) S hr.hd e0 hl r z
  refine wpAny_mono (ht.nox.run [] s1 (start N vs) H _ I hq) (fun fl s' hs => ?_) fun e s' hs => hs
  cases fl with
  | ret u =>
    obtain ⟨v, σ', H', J, rv, q⟩ := hs
    exact ⟨v, H', J.os, J.bare, J.base, J.hok, rv, q⟩
  | next =>
    obtain ⟨σ', H', J, q⟩ := hs
    exact ⟨V.non, H', J.os, J.bare, J.base, J.hok, rfl, q⟩
  | brk => exact hs.choose_spec.choose_spec.2.elim
  | cont => exact hs.choose_spec.choose_spec.2.elim
/-- the law's own call -/
theorem lawG {P : Program} {w : World} {K : PySem.W.Frag} {mg mb : Str → Option Value} {k : Nat} {fa a : Addr} {fd : FuncData} {sp : Sp} {s₁ : Shared} {vs : List Value} {ns : List Int} (KX : K.In s₁.heap) (hns : s₁.heap.Ns mainGlobals mg)
    (hb : s₁.heap.Ns builtinsNs mb) (hbb : ∀ x : Str, x ≠ "__name__" → mb x = bootBuiltins x) (hlim : s₁.heap.NoLimit) (hg : s₁.gens = #[])
    (ha : s₁.heap.get? a = some { cls := .type "list", data := .seq vs.toArray }) (hi : PyProof.Rows.IntsAre vs ns) (hl : ns.length ≤ sizeLine) (hr : Room k callerA)
    (F : ∀ base : Heap, K.In base → base.Ns mainGlobals mg → FnG P w K mg base CX0 k fa fd ["script"] sp) (bind : ∀ (s : Shared) (u : Value), BindsTo s fd ⟨[u], []⟩ [("script", u)])
    (hsp : ∀ H : Hp, SqL K H a (ns.map V.int) → sp [.ref a] H (fun v _ => v = .bl true) fun _ _ _ => False) :
    codeAny (model P w) callerA (.call (.ref fa) ⟨[.ref a], []⟩) (fun r s' => r = .ok (.ret (.bool true)) ∧ PySem.OldK s₁.heap s'.heap ∧ s'.os = s₁.os ∧ AllBare s'.gens) s₁ := by
  have rv := vals_ints hi
  have lenV := hi.length
  -- the abstract heap: nothing, or the script, locked
  have go : ∀ H : Hp, (∀ b o, H b = some o → b = a ∧ K.lookup a = none ∧ o = .frz { cls := .type "list", data := .seq vs.toArray } (.lst (ns.map V.int))) → SqL K H a (ns.map V.int) →
      codeAny (model P w) callerA (.call (.ref fa) ⟨[.ref a], []⟩) (fun r s' => r = .ok (.ret (.bool true)) ∧ PySem.OldK s₁.heap s'.heap ∧ s'.os = s₁.os ∧ AllBare s'.gens) s₁ := by
    intro H hA hS
    have hok : HOk P w H s₁.heap := fun b o q => by
      obtain ⟨rfl, _, rfl⟩ := hA b o q
      exact ⟨ha, by rw [List.length_map]; exact hl, vs, _, rv, ha⟩
    have low : ∀ {b : Addr} {o : Obj}, s₁.heap.get? b = some o → H b = none → (hidT s₁.heap H).get? b = some o := fun e n => hidT_get e n
    have free : ∀ {b : Addr} {o : Obj}, s₁.heap.get? b = some o → (∀ its n, o.data ≠ .seq its n) → H b = none := fun {b o} e d => by
      cases q : H b with
      | none => rfl
      | some u =>
        obtain ⟨rfl, _⟩ := hA b u q
        rw [ha] at e
        cases e
        exact absurd rfl (d _ _)
    have nsT : ∀ {b : Addr} {m : Str → Option Value}, s₁.heap.Ns b m → (hidT s₁.heap H).Ns b m := fun {b m} z => by
      obtain ⟨o, es, ep, e, d, r⟩ := z
      exact ⟨o, es, ep, low e (free e fun its n y => by rw [d] at y; cases y), d, r⟩
    have kT : K.In (hidT s₁.heap H) := fun b o e => by
      refine low (KX b o e) ?_
      cases q : H b with
      | none => rfl
      | some u =>
        obtain ⟨rfl, z, _⟩ := hA b u q
        rw [z] at e
        cases e
    have hM : Mod K mg (hidT s₁.heap H) := by
      obtain ⟨mc, h1, h2⟩ := hlim
      exact ⟨kT, nsT hns, ⟨mb, nsT hb, hbb⟩, ⟨mc, nsT h1, h2⟩⟩
    have e0 : Env0 P w K mg (hidT s₁.heap H) callerA [] s₁ H :=
      ⟨rfl, hM, fun b o e => of_hidT e, Nat.le_of_eq (hidT_size _ _), trivial, fun b hb => (nomatch hb), hok, .of_eq hg⟩
    have run := (F _ kT (nsT hns)).run callerA [] s₁ H ⟨[.ref a], []⟩ [.ref a] [.ref a] _ _ rfl hr e0 (bind s₁ (.ref a)) (.cons rfl .nil) (hsp H hS)
    refine codeAny_mono run fun r s' h => ?_
    cases r with
    | error e => exact False.elim h
    | ok fl =>
      cases fl with
      | next => exact False.elim h
      | brk => exact False.elim h
      | cont => exact False.elim h
      | ret u =>
        obtain ⟨v, H', os, bare, un, hok', r', q⟩ := h
        obtain rfl : v = .bl true := q
        obtain rfl : u = Value.bool true := r'
        refine ⟨rfl, PySem.OldK.of_keep fun b o e => ?_, os, bare⟩
        cases q : H b with
        | none => exact un.keep b o e q (fun z => nomatch z) (fun z => nomatch z)
        | some u =>
          obtain ⟨rfl, _, rfl⟩ := hA b u q
          have z := un.frzs b _ _ q
          rw [ha] at e
          cases e
          exact (hok' b _ z).1
  cases hk : K.lookup a with
  | some o =>
    have e := KX a o hk
    rw [ha] at e
    cases e
    refine go (fun _ => none) (fun b o z => nomatch z) (.inr ⟨_, vs.toArray, _, hk, rfl, rfl, rfl, ?_, by simpa using rv⟩)
    rw [List.size_toArray, lenV]
    exact hl
  | none =>
    refine go (fun b => if b = a then some (.frz { cls := .type "list", data := .seq vs.toArray } (.lst (ns.map V.int))) else none) (fun b o z => ?_) (.inl (.inr ⟨_, if_pos rfl⟩))
    by_cases hb : b = a
    · rw [if_pos hb] at z
      exact ⟨hb, hk, (Option.some.inj z).symm⟩
    · rw [if_neg hb] at z
      cases z
theorem walkG {l : PySem.W.OpenLaw} {k : Nat} {q : Program} {loose : List Str} {XP : (Str → Option Value) → Heap → Prop} {YP : World → Heap → Prop} {d : DefRec} {K : Params → PySem.W.Frag} {sp : PySem.W.Frag → Sp} (hn : l.most = some 63) (hdf : d.params.defaults = [])
    (hr : Room k callerA) (hY : ∀ (w : World) (h : Heap), YP w h → (K w.params).In h)
    (F : ∀ (w : World) (mg : Str → Option Value) (fa : Addr) (h : Heap), (K w.params).In h → h.Ns mainGlobals mg → mg d.name = some (.ref fa) →
      ∃ fd : FuncData, (∀ (s : Shared) (u : Value), BindsTo s fd ⟨[u], []⟩ [("script", u)]) ∧
        ∀ base : Heap, (K w.params).In base → base.Ns mainGlobals mg → FnG l.prog w (K w.params) mg base CX0 k fa fd ["script"] (sp (K w.params)))
    (hsp : ∀ (K : PySem.W.Frag) (H : Hp) (a : Addr) (ns : List Int), ns.length ≤ 63 → SqL K H a (ns.map V.int) → sp K [.ref a] H (fun v _ => v = .bl true) fun _ _ _ => False) :
    PySem.W.WalkO q loose XP YP l.row.toRowW d [] (fun f vs => PySem.call f vs) := by
  refine Att.attach_callB hn hdf fun w s₀ s₁ mg mb fa o pm cd doc a vs ns G Y ho hd hcd hmg hobj hints hlen hbits hg => ?_
  have KX := hY w _ Y
  obtain ⟨fd, hb, hF⟩ := F w mg fa _ KX G.T.g hmg
  exact lawG KX G.T.g G.T.b G.T.builtins G.T.nolimit hg hobj hints (Nat.le_trans hlen (by decide)) hr hF hb fun H hS => hsp (K w.params) H a ns hlen hS
end
/-! ### more rules of my own: repr of data, count, != of lists, tuple * n -/
section
variable {X : Cx}
/-- data that repr shows: as Dp says, or a dict that is empty -/
def Rp (K : PySem.W.Frag) (H : Hp) (v : V) (d : PyData) : Prop := Dp K H v d ∨ ∃ (a : Addr), v = .ref a ∧ H a = some (.dK []) ∧ d = .dict []
mutual
theorem dp_noDict {K : PySem.W.Frag} {H : Hp} : ∀ (d : PyData) (v : V), Dp K H v d → d.hasDict = false
  | .none, _, _ => rfl
  | .bool _, _, _ => rfl
  | .int _, _, _ => rfl
  | .str _, _, _ => rfl
  | .list ds, _, h => by
    cases h with
    | lst _ ha => exact dp_noDictAll ds _ ha
  | .tuple ds, _, h => by
    cases h with
    | tup _ ha => exact dp_noDictAll ds _ ha
  | .dict _, _, h => by cases h
theorem dp_noDictAll {K : PySem.W.Frag} {H : Hp} : ∀ (ds : List PyData) (vs : List V), DpAll K H vs ds → PyData.hasDictAll ds = false
  | [], _, _ => rfl
  | d :: ds, _, h => by
    cases h with
    | cons h1 h2 =>
      show (d.hasDict || PyData.hasDictAll ds) = false
      rw [dp_noDict d _ h1, dp_noDictAll ds _ h2]
      rfl
end
theorem Rp.reads {pins : List (Addr × Obj)} {σ : L2.St} {H : Hp} {s : Shared} (I : L2.Inv X pins σ H s) {v : V} {u : Value} {d : PyData} (h : Rp X.K H v d) (r : RelV v u) : ∃ as, Reads s.heap u d as ∧ (d.hasDict = true → sysModules ∉ as) := by
  rcases h with h | ⟨a, rfl, e, rfl⟩
  · obtain ⟨as, hr⟩ := Dp.reads I d v u h r
    refine ⟨as, hr, fun z => ?_⟩
    rw [dp_noDict d v h] at z
    cases z
  · cases r
    obtain ⟨_, hs, vs, kv, o, es, ep, h1, h2, h3, _, h5, _⟩ := (show ObjOk X.prog X.w H s.heap a (.dK []) from I.hok a _ e)
    cases kv
    cases hes : es.toList with
    | cons x xs =>
      rw [hes] at h5
      cases h5
    | nil =>
      refine ⟨_, Reads.dict (kvs := []) h1 h2.1 h3 (as := []) (bs := []) ?_ ?_, fun _ z => ?_⟩
      · rw [hes]
        exact .nil
      · rw [hes]
        exact .nil
      · rcases List.mem_cons.mp z with z | z
        · rw [z] at hs
          simp at hs
        · cases z
def okD (d : PyData) : Bool := d.showable && decide (d.depth ≤ 50) && decide (d.shown.length ≤ 100000) && PyData.strOk d.shown
theorem call_reprW (hg : X.A.guards = some []) (hu : X.A.units + 64 < cLine) : CallR X (.builtin "repr") (fun xs H Q => ∃ v d, xs = [v] ∧ Rp X.K H v d ∧ (d.showable = true ∧ d.depth ≤ 50 ∧ d.shown.length ≤ 100000) ∧ Q (.str d.shown) H) := by
  intro pins s σ H xs us Q I r h
  obtain ⟨v, d, rfl, hd, ho, q⟩ := h
  obtain ⟨u, rfl, ru⟩ := vals1 r
  obtain ⟨h1, h2, h3⟩ := ho
  obtain ⟨as, hr, hm⟩ := hd.reads I ru
  have fin : ∀ (h' : Heap) (t : Tok) (tk : Nat), (∀ b o, s.heap.get? b = some o → h'.get? b = some o) → EP X pins σ Q (.str d.shown t) { s with heap := h', toks := tk } := fun h' t tk kp =>
    ⟨.str d.shown, H, I.kept (t' := tk) kp, ⟨t, rfl⟩, q⟩
  have hsz : d.shown.length ≤ sizeLine := Nat.le_trans h3 (by decide)
  cases v with
  | ref a =>
    cases ru
    exact repr_of_reads' hr h1 hm hg (by omega) (fun b o e => e) (fun h' t tk kp => fin h' t tk kp) hsz
  | non =>
    cases ru
    cases hr
    exact PySem.P.repr_of_none (fin s.heap _ _ fun b o e => e)
  | bl b =>
    cases ru
    cases hr
    exact PySem.P.repr_of_bool (fin s.heap _ _ fun b o e => e)
  | int i =>
    obtain ⟨t, rfl⟩ := ru
    cases hr
    exact PySem.P.repr_of_int (by simpa [PyData.showable] using h1) (fin s.heap _ _ fun b o e => e)
  | str z =>
    obtain ⟨t, rfl⟩ := ru
    cases hr
    exact PySem.P.repr_of_str (fin s.heap _ _ fun b o e => e) hsz
  | byt b =>
    obtain ⟨t, rfl⟩ := ru
    cases hr
  | flt b =>
    obtain ⟨t, rfl⟩ := ru
    cases hr
  | ty n =>
    cases ru
    cases hr
theorem okD_w {d : PyData} (ho : okD d = true) : d.showable = true ∧ d.depth ≤ 50 ∧ d.shown.length ≤ 100000 := by
  unfold okD at ho
  simp only [Bool.and_eq_true, decide_eq_true_eq] at ho
  obtain ⟨⟨⟨h1, h2⟩, h3⟩, _⟩ := ho
  exact ⟨h1, h2, h3⟩
theorem call_reprD (hg : X.A.guards = some []) (hu : X.A.units + 64 < cLine) : CallR X (.builtin "repr") (fun xs H Q => ∃ v d, xs = [v] ∧ Rp X.K H v d ∧ okD d = true ∧ Q (.str d.shown) H) := by
  intro pins s σ H xs us Q I r h
  obtain ⟨v, d, e, hd, ho, q⟩ := h
  exact call_reprW hg hu pins s σ H xs us Q I r ⟨v, d, e, hd, okD_w ho, q⟩
/-- xs.count(y), flat things -/
def rCnt (K : PySem.W.Frag) : V → List V → Hp → VK → Prop := fun x xs H Q => ∃ (a : Addr) (ys : List V) (y : V), x = .ref a ∧ xs = [y] ∧ SqL K H a ys ∧ flatV y = true ∧ ys.all flatV = true ∧ Q (.int (ys.countP (eqV · y) : Nat)) H
theorem countP_eqU {x : V} : ∀ {xs : List V} {us : List Value}, Vals xs us → xs.all flatV = true → us.countP (eqU x) = xs.countP fun y => eqV y x
  | _, _, .nil, _ => rfl
  | y :: xs, u :: us, .cons r t, f => by
    rw [List.all_cons, Bool.and_eq_true] at f
    rw [List.countP_cons, List.countP_cons, eqU_of r f.1, countP_eqU t f.2]
theorem mt_count : MtR X "list.count" (rCnt X.K) := by
  intro pins s σ H x xs v us Q I rx rxs h
  obtain ⟨a, ys, y, rfl, rfl, hs, fy, fys, q⟩ := h
  cases rx
  obtain ⟨u, rfl, ru⟩ := rxs.one
  obtain ⟨its, rv, ⟨⟨cls, dd, data, sl⟩, n, ho, hc, hdn, hd⟩, hlen⟩ := I.list hs
  simp only at hc hd
  subst hc hd
  have cnt := SeqAt.list_countAt a its.toArray n dd sl u (eqU y)
  refine call_meets PySem.F.slot_list_count ⟨_, ho, rfl⟩ PySem.F.entry_list_count (PySem.F.args_list_count_2 _ _) cnt ?_
  refine ⟨ho, fun z hz => mem_eqAt ru fy rv fys z (by simpa using hz), ?_⟩
  refine ⟨.int (ys.countP (eqV · y) : Nat), H, I.tok _, ⟨s.toks, ?_⟩, q⟩
  rw [← countP_eqU rv fys]
end
/-! ### a tuple, once or not at all -/
section
/-- t * 1: t itself -/
theorem mul_one (l : Addr) (items : Array Value) (n : Nat) (dd : Option Addr) (sl : Array (Option Value)) (u : Tok) (c2 : items.isEmpty = false) :
    Meets (Builtin.«tuple.__mul__» ⟨[.ref l, .int 1 u], []⟩) (fun _ R s => s.heap.get? l = some { cls := .type "tuple", dict := dd, data := .seq items n, slots := sl } ∧ R (.ok (.ret (Value.ref l))) s) :=
  .of_wp fun prog w A R s h => by
    obtain ⟨hp, g, d, tk, os⟩ := s
    obtain ⟨hl, h⟩ := h
    have f1 := AutoSeq1.idx_int
    wp_walk using wpAny_loadPart' hl
    exact ⟨_, rfl, h⟩
/-- t * 0: an empty tuple -/
theorem mul_zero (l : Addr) (items : Array Value) (n : Nat) (dd : Option Addr) (sl : Array (Option Value)) (u : Tok) (c2 : items.isEmpty = false) :
    Meets (Builtin.«tuple.__mul__» ⟨[.ref l, .int 0 u], []⟩) (fun _ R s => s.heap.get? l = some { cls := .type "tuple", dict := dd, data := .seq items n, slots := sl } ∧
      R (.ok (.ret (Value.ref s.heap.objs.size))) { s with heap := s.heap.push { cls := Value.type "tuple", data := Data.seq #[] } }) :=
  .of_wp fun prog w A R s h => by
    obtain ⟨hp, g, d, tk, os⟩ := s
    obtain ⟨hl, h⟩ := h
    have f1 := AutoSeq1.idx_int
    wp_walk using wpAny_loadPart' hl
    exact ⟨_, rfl, h⟩
/-- t * k, k from 0 to 3: some tuple of that -/
def rRep3 (K : PySem.W.Frag) : V → V → Hp → VK → Prop := fun x y H Q => ∃ (l : Addr) (k : Int) (xs : List V), x = .ref l ∧ y = .int k ∧ SqT K H l xs ∧ H l = some (.tup xs) ∧ xs ≠ [] ∧ 0 ≤ k ∧ k ≤ 3 ∧ xs.length ≤ 1000 ∧
  ∀ p H', (∀ b o, H b = some o → H' b = some o) → H' p = some (.tup (List.replicate k.toNat xs).flatten) → Q (.ref p) H'
theorem op_rep3 {X : Cx} : OpR X (binaryOp .Mult) (rRep3 X.K) := by
  intro pins s σ H x y v u Q I rx ry h
  obtain ⟨l, k, xs, rfl, rfl, hT, eT, hne, h0, h3, hz, q⟩ := h
  by_cases hk : 2 ≤ k
  · refine op_repT pins s σ H _ _ v u Q I rx ry ⟨l, k, xs, rfl, rfl, hT, hne, hk, by omega, hz, fun p hp => q p _ (fun b o e => ?_) upd_same⟩
    rw [upd_ne (ne_of_none e hp)]
    exact e
  cases rx
  obtain ⟨t, rfl⟩ := ry
  obtain ⟨its, r, ⟨⟨cls, dd, data, sl⟩, ho, hc, n, hd⟩, hs⟩ := I.tuple hT
  simp only at hc hd
  subst hc hd
  have hi : its.toArray.isEmpty = false := by
    cases r with
    | nil => exact absurd rfl hne
    | cons a b => rfl
  have ty : s.TypeIs (.ref l) "tuple" := ⟨_, ho, rfl⟩
  have key : ∀ (i : Int), k = i → wpAny (model X.prog X.w) X.A (call (.builtin "tuple.__mul__") [.ref l, .int i t]) (EP X pins σ Q) X.xe s → wpAny (model X.prog X.w) X.A (binaryOp .Mult (.ref l) (.int k t)) (EP X pins σ Q) X.xe s := by
    rintro i rfl hq
    refine wpAny_binaryOp_repeat_ref (T := "tuple") (U := "int") (by decide) ty (fun s' => typeIs_int s' k t) noFill_tuple_mul F.fills_int_mul F.slot_int_rmul repeat_tuple F.slot_int_index.lookup ?_
    exact call_meets F.slot_int_rmul (typeIs_int s k t) F.entry_int_rmul (F.args_int_rmul_2 _ _) (int_rmul_tuple k t l its.toArray n dd sl) ⟨ho, rfl, ty, hq⟩
  have k01 : k = 0 ∨ k = 1 := by omega
  rcases k01 with rfl | rfl
  · refine key 0 rfl (call_meets F.slot_tuple_mul ty F.entry_tuple_mul (F.args_tuple_mul_2 _ _) (mul_zero l its.toArray n dd sl t hi) ⟨ho, ?_⟩)
    have I1 := I.laid (t' := s.toks) (a := s.heap.objs.size) (o := .tup []) (h' := s.heap.push { cls := Value.type "tuple", data := Data.seq #[] }) (fun _ _ q => Heap.get?_push_of_some _ q) (Nat.le_refl _)
      ⟨Nat.zero_le _, [], .nil, _, Heap.get?_push_at rfl rfl, rfl, _, rfl⟩
    have hn := I.hok.fresh (Nat.le_refl s.heap.objs.size)
    exact ⟨.ref s.heap.objs.size, _, I1, rfl, q _ _ (fun b o e => by rw [upd_ne (ne_of_none e hn)]; exact e) upd_same⟩
  · refine key 1 rfl (call_meets F.slot_tuple_mul ty F.entry_tuple_mul (F.args_tuple_mul_2 _ _) (mul_one l its.toArray n dd sl t hi) ⟨ho, ?_⟩)
    refine ⟨.ref l, H, I, rfl, q l H (fun b o e => e) ?_⟩
    rw [eT]
    simp
end
/-! ### data stays data; texts of ints -/
mutual
theorem dp_same {K : PySem.W.Frag} {H H' : Hp} (s : Same H H') : ∀ (d : PyData) (v : V), Dp K H v d → Dp K H' v d
  | .none, _, h => by cases h; exact .non
  | .bool _, _, h => by cases h; exact .bl _
  | .int _, _, h => by cases h; exact .int _
  | .str _, _, h => by cases h; exact .str _
  | .list ds, _, h => by
    cases h with
    | lst q ha => exact .lst (s.seq q) (dp_sameAll s ds _ ha)
  | .tuple ds, _, h => by
    cases h with
    | tup q ha =>
      refine .tup ?_ (dp_sameAll s ds _ ha)
      rcases q with (q | ⟨o, q⟩) | q
      · exact .inl (.inl (s _ _ q))
      · exact .inl (.inr ⟨o, s _ _ q⟩)
      · exact .inr q
  | .dict _, _, h => by cases h
theorem dp_sameAll {K : PySem.W.Frag} {H H' : Hp} (s : Same H H') : ∀ (ds : List PyData) (vs : List V), DpAll K H vs ds → DpAll K H' vs ds
  | [], _, h => by cases h; exact .nil
  | d :: ds, _, h => by
    cases h with
    | cons h1 h2 => exact .cons (dp_same s d _ h1) (dp_sameAll s ds _ h2)
end
theorem rp_same {K : PySem.W.Frag} {H H' : Hp} {v : V} {d : PyData} (h : Rp K H v d) (s : Same H H') : Rp K H' v d := by
  rcases h with h | ⟨a, rfl, e, rfl⟩
  · exact .inl (dp_same s d v h)
  · exact .inr ⟨a, rfl, s _ _ e, rfl⟩
theorem char_lt (c : Char) : c.toNat < 1114112 := by
  have h := c.valid
  have e : c.toNat = c.val.toNat := rfl
  rcases h with h | ⟨_, h⟩
  · rw [e]
    exact Nat.lt_trans h (by decide)
  · rw [e]
    exact h
theorem strOk_of (s : String) : PyData.strOk (Str.ofString s) = true := by
  unfold PyData.strOk
  rw [PySem.Str.ofString_eq_toList]
  show (List.map Char.toNat s.toList).toArray.all (fun x => decide (x < 1114112)) = true
  rw [Array.all_eq_true']
  intro x hx
  have hx2 : x ∈ List.map Char.toNat s.toList := by simpa using hx
  obtain ⟨c, _, rfl⟩ := List.mem_map.mp hx2
  exact decide_eq_true (char_lt c)
theorem okD_int {i : Int} (h : i.natAbs < 10 ^ 40) : okD (.int i) = true := by
  have h1 : i.natAbs < 2 ^ 140 := Nat.lt_of_lt_of_le h (by decide)
  have h2 : i.natAbs.log2 < 1920 := Nat.lt_trans (PySem.Flt.log2_lt_of (by decide) h1) (by decide)
  have h3 := int_text_length_le10 (k := 40) (by decide) h
  have e1 : PyData.showable (.int i) = true := decide_eq_true h2
  have e2 : PyData.shown (.int i) = Str.ofString (toString i) := rfl
  have e3 : (Str.ofString (toString i)).length ≤ 100000 := by
    rw [PySem.ofString_length]
    omega
  unfold okD
  rw [e1, e2, strOk_of, decide_eq_true e3]
  rfl
/-! ### try: .. except A as n: .. except B as m: .. -/
/-- what such clauses wish of an exception of the body; i, the slot of the clause's name -/
def wManyA (K : PySem.W.Frag) (Wout : WX) (D : Ends) : List (Value × Nat × (Addr → Value → Option Addr → TS)) → WX
  | [] => Wout
  | (c, i, ts) :: r => fun cls d σ H => ∃ b, PySem.W.exmOne K cls c = some b ∧
      (b = true → ∀ a, H a = none → ts a cls d { nx := fun σ' H' => D.nx (σ'.set i none) H', rt := D.rt, bk := fun σ' H' => D.bk (σ'.set i none) H', ct := fun σ' H' => D.ct (σ'.set i none) H' } (σ.set i (some (.ref a))) H) ∧
      (b = false → wManyA K Wout D r cls d σ H)
inductive HdsAs (X : Cx) : List ExceptHandler → List (Value × Nat × (Addr → Value → Option Addr → TS)) → Prop
  | nil : HdsAs X [] []
  | cons {x n : Str} {i : Nat} {c : Value} {ts : Addr → Value → Option Addr → TS} {b₀ : Stmt} {suite : List Stmt} {np pos' : Pos} {hds : List ExceptHandler} {l : List (Value × Nat × (Addr → Value → Option Addr → TS))}
      (hc : Names X x c) (hi : X.N[i]? = some n) (hln : X.env.kindOf n = some .local)
      (hsu : ∀ (a : Addr) (oe : Obj) (cls : Value) (d : Option Addr) (pn : List (Addr × Obj)), Zc cls d oe → (∃ vs, oe.data = .fields vs) → PSs (X.suite a ((a, oe) :: pn)) (b₀ :: suite) (ts a cls d))
      (r : HdsAs X hds l) : HdsAs X (.ExceptHandler (some (.Name x np)) (some n) (b₀ :: suite) pos' :: hds) ((c, i, ts) :: l)
section
variable {X : Cx} {body : List Stmt} {h₀ : ExceptHandler} {hds : List ExceptHandler} {l : List (Value × Nat × (Addr → Value → Option Addr → TS))} {pos : Pos} {tb : WX → TS} {Wout : WX}
theorem ps_try_manyA (hs : X.stack = X.env :: X.outer) (hf : X.env.frame = some X.env.locals) (hN : X.N.Nodup) (tk : Takes X Wout)
    (hb : ∀ (W : WX) (pn : List (Addr × Obj)) (xe : Value → Shared → Prop), Takes (X.tr pn xe) W → PassesOwn (model X.prog X.w) X.A X.env xe → PSs (X.tr pn xe) body (tb W))
    (hh : HdsAs X (h₀ :: hds) l) : PS X (.Try body (h₀ :: hds) [] [] pos) (fun D σ H => tb (wManyA X.K Wout D l) D σ H) := by
  constructor
  intro pins s σ H D I h
  have ok := I.ok
  have hfr : X.A.frames = some (X.env :: X.outer) := by
    rw [ok.frames, hs]
  apply wpAny_Try_except
  let xe1 : Value → Shared → Prop := fun e s₁ => wpAny (model X.prog X.w) X.A (noteFrame e X.env)
    (fun _ s₂ => wpAny (model X.prog X.w) X.A (setFlight e none)
      (fun _ s₃ => wpAny (model X.prog X.w) X.A (handleBy e X.env (h₀ :: hds)) (SP X pins D) X.xe s₃) X.xe s₂) X.xe s₁
  refine wpAny_mono ((hb (wManyA X.K Wout D l) (X.pn ++ pins) xe1 (fun u s' xx => ?_) PassesOwn.looking).run [] s σ H D (I.toTry _) h) (fun f s1 hsp => ?_) (fun e s1 he => he)
  · obtain ⟨a, B, sI, pins', σ', H', cls, d, rfl, J', nb, up, sky, na, os, ag, w⟩ := xx
    have J : Inv X pins σ' H' sI := J'.ofTry ok
    have sky' : Sky B (X.env :: X.outer) a (Zc cls d) X.env.locals s'.heap := by
      rw [← hs]
      exact sky
    show wpAny (model X.prog X.w) X.A (noteFrame (.ref a) X.env) _ _ _
    refine Sky.land Zc.steady hfr hf sky' fun h3 fl3 up3 => ?_
    have J3 : Inv X pins σ' H' { s' with heap := h3 } := J.landed nb fl3.1 (up.trans up3) os ag
    obtain ⟨oe3, vs3, he3, hz3, hd3⟩ := fl3.there
    have nfr : a ∉ frs (X.env :: X.outer) := fun hm => by
      obtain ⟨_, o', e', hnf⟩ := fl3.2.2.1.mem hm
      rw [he3] at e'
      cases e'
      exact hnf _ hd3
    have nL : a ≠ X.env.locals := fun z =>
      nfr (List.mem_filterMap.mpr ⟨X.env, List.mem_cons_self, by rw [hf, z]⟩)
    have nF : a ∉ X.fs := fun hm => by
      obtain ⟨e, he, q⟩ := List.mem_filterMap.mp hm
      exact nfr (List.mem_filterMap.mpr ⟨e, List.mem_cons_of_mem _ he, q⟩)
    have S3 := J3.suite he3 hd3 na nL nF
    -- one clause after the other
    have go : ∀ (hds : List ExceptHandler) (l : List (Value × Nat × (Addr → Value → Option Addr → TS))), HdsAs X hds l → wManyA X.K Wout D l cls d σ' H' →
        wpAny (model X.prog X.w) X.A (handleBy (.ref a) X.env hds) (SP X pins D) X.xe { s' with heap := h3 } := by
      intro hds l hh
      induction hh with
      | nil =>
        intro w
        apply wpAny_handleBy_nil
        obtain ⟨k1, k2, k3, oe, vs, T, oT, ts', he, hz, hd, h1, hr⟩ := id fl3
        unfold PySem.passOn
        refine wpAny_bind (wpAny_field he hd h1 ?_)
        rw [if_neg (show ¬ ((Value.ref T == Value.none) = true) from by simp)]
        have fin : wpAny (model X.prog X.w) X.A (setFlight (.ref a) X.env.frame)
            (fun _ s4 => wpAny (model X.prog X.w) X.A (throw (.ref a) : Sem Flow) (SP X pins D) X.xe s4) X.xe { s' with heap := h3 } := by
          rw [hf]
          refine HandSPX.setFlight_upZ fl3 fun h4 hh4 up4 => wpAny_throw (tk _ _ ?_)
          refine ⟨a, B, sI, pins, σ', H', cls, d, rfl, J, nb, (up.trans up3).trans up4, .inr (.inr ?_), na, os, ag, w⟩
          rw [hs]
          exact hh4
        first
          | exact wpAny_bind (wpAny_pure (wpAny_bind fin))
          | exact wpAny_bind fin
      | @cons x n i c ts b₀ suite np pos' hds l hc hi hln hsu r ih =>
        rintro ⟨b, hb1, hyes, hno⟩
        have hloc : Loc X.env.scope n := .inl hln
        refine wpAny_handleBy_cons (codeAny_handlers_test ?_) (by intro q; cases q)
        have l1 : PySem.W.Looks (model X.prog X.w) h3 (typeOf (.ref a)) cls := fun A Q E s k q =>
          wpAny_typeOf_ref (k _ _ he3) (by rw [hz3.1]; exact q)
        have l2 := PySem.W.exm_one (M := model X.prog X.w) (J3.kIn) l1 hb1
        have test : ∀ {Q : Value → Shared → Prop} {E : Value → Shared → Prop}, Q c { s' with heap := h3 } →
            wpAny (model X.prog X.w) (X.A.mark (some (.ref a))) (eval (.Name x np) X.env) Q E { s' with heap := h3 } := fun {Q E} q => by
          obtain ⟨hg, hdbg, hm | ⟨hm, hv, hnn⟩⟩ := hc
          · exact ld_glob (X := X.suite a ((a, oe3) :: (X.pn ++ pins))) S3 hg hm q hdbg
          · exact ld_blt (X := X.suite a ((a, oe3) :: (X.pn ++ pins))) S3 hg hm hv q hnn hdbg
        refine test (l2.here ?_)
        cases b with
        | false => exact ih (hno rfl)
        | true =>
          apply codeAny_handlers_suite_as
          refine HandSPX.lands_againZ fl3 fun h4 fl4 up4 => ?_
          have J4 : Inv X pins σ' H' { s' with heap := h4 } := J.landed nb fl4.1 ((up.trans up3).trans up4) os ag
          obtain ⟨oe4, vs4, he4, hz4, hd4⟩ := fl4.there
          have S4 := J4.suite he4 hd4 na nL nF
          refine store_ok (X := X.suite a ((a, oe4) :: (X.pn ++ pins))) (v := .ref a) S4 hN hi hloc rfl (fun s5 S5 => ?_) (.inr hln)
          have run := (hsu a oe4 cls d (X.pn ++ pins) hz4 ⟨_, hd4⟩).run [] s5 _ H' _ S5 (hyes rfl a na)
          refine wpAny_mono run (fun f s6 hsp => ?_) (fun _ _ z => False.elim z)
          have gone : ∀ {σ6 : L2.St} {H6 : Hp} {Q : Shared → Prop}, Inv (X.suite a ((a, oe4) :: (X.pn ++ pins))) [] σ6 H6 s6 → (∀ s7, Inv X pins (σ6.set i none) H6 s7 → Q s7) →
              wpAny (model X.prog X.w) X.A (do bindName X.env n .none; unbindBehindTheSuite X.env n pos') (fun _ s7 => Q s7) X.xe s6 := fun {σ6 H6 Q} S6 hq =>
            gone_ok (S6.unsuite ok) hN hi hln hq
          cases f with
          | next =>
            obtain ⟨σ6, H6, S6, q6⟩ := hsp
            exact gone S6 fun s7 J7 => ⟨_, _, J7, q6⟩
          | brk =>
            obtain ⟨σ6, H6, S6, q6⟩ := hsp
            exact gone S6 fun s7 J7 => ⟨_, _, J7, q6⟩
          | cont =>
            obtain ⟨σ6, H6, S6, q6⟩ := hsp
            exact gone S6 fun s7 J7 => ⟨_, _, J7, q6⟩
          | ret u =>
            obtain ⟨v6, σ6, H6, S6, r6, q6⟩ := hsp
            exact gone S6 fun s7 J7 => ⟨_, _, _, J7, r6, q6⟩
    exact go _ _ hh w
  · cases f with
    | next =>
      obtain ⟨σ', H', J', q⟩ := hsp
      exact wpAny_execs_nil ⟨σ', H', J'.ofTry ok, q⟩
    | brk =>
      obtain ⟨σ', H', J', q⟩ := hsp
      exact ⟨σ', H', J'.ofTry ok, q⟩
    | cont =>
      obtain ⟨σ', H', J', q⟩ := hsp
      exact ⟨σ', H', J'.ofTry ok, q⟩
    | ret u =>
      obtain ⟨v, σ', H', J', r, q⟩ := hsp
      exact ⟨v, σ', H', J'.ofTry ok, r, q⟩
end
/-! ### defs called within an except suite, about the error that is caught -/
/-- a def's promise there; p, the error that is caught and its object -/
structure FnP (P : Program) (w : World) (K : PySem.W.Frag) (mg : Str → Option Value) (base : Heap) (k : Nat) (f : Addr) (fd : FuncData) (ps : List Str) (sp : Addr × Obj → Sp) : Prop where
  len : ∀ p vs H Q E, sp p vs H Q E → vs.length = ps.length
  run : ∀ (A : Around) (outer : List Env) (s : Shared) (H : Hp) (args : Args) (us : List Value) (vs : List V) (Q : VK) (E : XK) (p : Addr × Obj), L2H.RoomH k A → L2H.PinOk outer H s p → Env0 P w K mg base A outer s H →
    BindsTo s fd args (ps.zip us) → Vals vs us → sp p vs H Q E → codeAny (model P w) A (.call (.ref f) args) (CR CX0 outer P w H s Q E) s
theorem fnP_ok {P : Program} {w : World} {K : PySem.W.Frag} {mg : Str → Option Value} {base : Heap} {k : Nat} {x qual : Str} {st : Stmt} {f : Addr} {fd : FuncData} {N ps : List Str} {sp : Addr × Obj → Sp} (F : Fun K x qual st f fd) (S : FnScope N ps (defScope st))
    (len : ∀ p vs H Q E, sp p vs H Q E → vs.length = ps.length)
    (body : ∀ (cdv : Value) (A : Around) (outer : List Env) (s : Shared) (H : Hp) (vs : List V) (Q : VK) (E : XK) (p : Addr × Obj), L2H.RoomH k (A.deeper (PyProof.Rows.envOfC qual (defScope st) s.heap.objs.size f cdv)) → sp p vs H Q E →
      ∃ t, PSs (L2H.cxH CX0 P w K mg base N qual (defScope st) f cdv A outer s H E p).nox (defBody st) t ∧ t { nx := fun _ H' => Q .non H', rt := Q } (L2.start N vs) H) :
    FnP P w K mg base (k + 1) f fd ps sp := by
  obtain ⟨oc, od, kV, doc, pm, an, cdv, ct, osl, rfl, lk, hcd⟩ := F.ex
  constructor
  · exact len
  intro A outer s H args us vs Q E p hr hpin e0 hb r hsp
  have hl := len _ _ _ _ _ hsp
  have old : ∀ b o, base.get? b = some o → s.heap.get? b = some o := fun b o e => (e0.bs b o e).1
  have KX : K.In s.heap := e0.mod.kin.keeps old
  have kinds : ∀ y ∈ ps.zip us, (defScope st).names.lookup y.1 = some .local ∨
      ((defScope st).names.lookup y.1 = some .cell ∧ ((cellsFrom (s.heap.objs.size + 1) (defScope st).names []).lookup y.1).isSome = true) := by
    rintro ⟨n, v⟩ hy
    have q := S.par n (List.of_mem_zip hy).1
    refine q.imp id fun q => ⟨q, ?_⟩
    exact PySem.W.cellsFrom_some _ _ _ (.inl q)
  refine codeAny_call_function hr.depth (KX _ _ lk) rfl S.co S.gen rfl (PySem.W.codeRec_of KX hcd) (hb _ _ _ _ ?_)
  refine wpAny_newFunctionEnv_cells S.kind kinds fun env he s1 z => ?_
  subst he
  refine ⟨(e0.mod.nolimit.keeps old).keeps z.toInCall.keep, PySem.codeAny_func ?_⟩
  obtain ⟨t, ht, hq⟩ := body cdv A outer s H vs Q E p (hr.deeper _) hsp
  have I := L2H.inv_startH (CX := CX0) (E := E) (cd := cdv) (f := f) S hpin e0 hl r z
  refine wpAny_mono (ht.nox.run [] s1 (L2.start N vs) H _ I hq) (fun fl s' hs => ?_) fun e s' hs => hs
  cases fl with
  | ret u =>
    obtain ⟨v, σ', H', J, rv, q⟩ := hs
    exact ⟨v, H', J.os, J.bare, J.base, J.hok, rv, q⟩
  | next =>
    obtain ⟨σ', H', J, q⟩ := hs
    exact ⟨V.non, H', J.os, J.bare, J.base, J.hok, rfl, q⟩
  | brk => exact hs.choose_spec.choose_spec.2.elim
  | cont => exact hs.choose_spec.choose_spec.2.elim
section
variable {X : Cx} {k : Nat} {f : Addr} {fd : FuncData} {ps : List Str} {sp : Addr × Obj → Sp} {x : Str} {q pos : Pos} {e : Expr} {es : List Expr} {t : TA}
/-- f(e, ..) within the suite -/
theorem pe_callP {p : Addr × Obj} {spr : Sp} (imp : ∀ vs H Q E, spr vs H Q E → sp p vs H Q E) (F : FnP X.prog X.w X.K X.mg X.base k f fd ps sp) (hr : L2H.RoomH k X.A) (hp : p ∈ X.pn) (hg : Gl X x) (hm : X.mg x = some (.ref f)) (hk : PySem.W.keepIn X.K (.ref f) = true) (hb : L2.Binds X.K fd ps []) (ha : PA X (e :: es) t)
    (hdb : (x == ("__debug__" : Str)) = false := by decide) (he : starEach (e :: es) X.env = (false, eval e X.env) :: starEach es X.env := by rfl) (hpl : (backTo pos (starEach es X.env)).any (·.1) = false := by rfl) :
    PE X (.Call (.Name x q) (e :: es) [] pos) (fun σ H Q => t σ H fun vs H1 => spr vs H1 Q E0) := by
  constructor
  intro pins s σ H Q I h
  refine wpAny_Call_Name_kw (ld_glob I hg hm ?_ hdb)
  refine PySem.W.callWith_K (h₀ := X.base) I.ok.mod.kin hk (thn (ha.run pos pins s σ H _ I h) fun us s1 ⟨vs, H1, I1, r, hq0⟩ => ⟨I1.kIn, ?_⟩) he hpl
  have hq := imp _ _ _ _ hq0
  have hl : us.length = ps.length := by
    rw [← r.length]
    exact F.len _ _ _ _ _ hq
  have b := hb s1 us I1.kIn (by rw [List.append_nil]; exact hl)
  rw [List.append_nil] at b
  have P1 := I1.pin p (List.mem_append_left _ hp)
  have hpin : L2H.PinOk X.stack H1 s1 p := ⟨P1.1, P1.2.1, fun hm => (List.mem_cons.mp (I1.stkSub p.1 hm)).elim P1.2.2.1 P1.2.2.2.1, P1.2.2.2.2⟩
  refine wpAny_call (codeAny_mono (F.run X.A X.stack s1 H1 ⟨us, []⟩ us vs Q E0 p hr hpin I1.env0 b r hq) fun r s' hq' => ?_)
  cases r with
  | error er => exact False.elim hq'
  | ok fl =>
    cases fl with
    | ret u => exact I1.after hq'
    | next => exact False.elim hq'
    | brk => exact False.elim hq'
    | cont => exact False.elim hq'
/-- isinstance(e, c), e the error that is caught -/
def rIsP (K : PySem.W.Frag) (p : Addr × Obj) : List V → Hp → VK → Prop := fun xs H Q => ∃ (C : Addr) (c : V) (u : Value) (b : Bool), xs = [.ref p.1, c] ∧ p.2.cls = .ref C ∧ (∃ vs, p.2.data = .fields vs) ∧ ExcC K C ∧
  (p.2.dict = none ∨ ∃ dd fs, p.2.dict = some dd ∧ H dd = some (.xd fs)) ∧ ClsV c u ∧ PySem.W.kitOne K (.ref C) u = some b ∧ Q (.bl b) H
theorem call_isP {p : Addr × Obj} (hp : p ∈ X.pn) : CallR X (.builtin "isinstance") (rIsP X.K p) := by
  intro pins s σ H xs us Q I r h
  obtain ⟨C, c, u, b, rfl, h1, ⟨vs, h2⟩, hc, hd, k, e, q⟩ := h
  obtain ⟨u1, u2, rfl, r1, r2⟩ := vals2 r
  have e2 := k.eq r2
  subst e2
  cases r1
  have P1 := I.pin p (List.mem_append_left _ hp)
  have ok : ∀ {od : Option Obj}, PySem.W.findObj X.K C od "__class__" = some (.bind (.builtin "getset_descriptor.__get__") (.builtin "object.__class__")) := fun {od} => by
    obtain ⟨cd, hcd, _⟩ := PySem.W.any_some hc.hd
    have hs : (PySem.W.clsIn X.K C).isSome = true := by
      rw [hcd]
      rfl
    cases od with
    | none => exact PySem.W.findObj_dataN hs hc.ha hc.hn hc.ht
    | some o => exact PySem.W.findObj_data hs hc.ha hc.hn hc.ht
  obtain ⟨od, J⟩ : ∃ od, PySem.W.InstAt s.heap p.1 p.2 C od := by
    rcases hd with hd | ⟨dd, fs, hd, ed⟩
    · exact ⟨none, P1.1, h1, by unfold PySem.W.notCls; rw [h2], by rw [hd]; trivial⟩
    · have z : ObjOk X.prog X.w H s.heap dd (.xd fs) := I.hok dd _ ed
      obtain ⟨mA, hns, _⟩ := z
      obtain ⟨o, ho, _⟩ := lookIn_ns hns
      exact ⟨some o, P1.1, h1, by unfold PySem.W.notCls; rw [h2], by rw [hd]; exact ho⟩
  exact PySem.W.kia_one (PySem.W.exk_kit hc.hg hc.hk hc.hs hc.hd ok hc.hm) I.kIn J e (fun z => nomatch z) fun tk => ⟨.bl b, H, I.tok tk, rfl, q⟩
end
/-! ### the pool that a law draws from -/
abbrev sBegin : Stmt := top 25
abbrev sMixed : Stmt := top 26
abbrev sDraw : Stmt := top 27

structure PTxt (mg : Str → Option Value) : Prop where
  int : mg "int" = none
  abs : mg "abs" = none
  len : mg "len" = none
  str : mg "str" = none
  range : mg "range" = none

/-- what stands at p is a pool, whose numbers stand at q -/
def PoolAt (H : Hp) (p q : Addr) : Prop := ∃ (ns : List Int) (i a s b : Int), H p = some (.lst [.ref q, .int i, .int a, .int s, .int b]) ∧ H q = some (.lst (ns.map V.int)) ∧ 0 ≤ i ∧ ∀ n ∈ ns, 0 ≤ n
theorem PoolAt.ne {H : Hp} {p q : Addr} (h : PoolAt H p q) : p ≠ q := by
  obtain ⟨ns, i, a, s, b, h1, h2, _, _⟩ := h
  refine ne_of h1 h2 ?_
  intro e
  injection e with e
  cases ns with
  | nil => cases e
  | cons n r => injection e with e _; cases e
/-- all but the pool is as it was -/
def But (p q : Addr) (H H' : Hp) : Prop := ∀ b o, b ≠ p → b ≠ q → H b = some o → H' b = some o
theorem But.refl (p q : Addr) (H : Hp) : But p q H H := fun _ _ _ _ h => h
theorem But.trans {p q : Addr} {H H1 H2 : Hp} (a : But p q H H1) (b : But p q H1 H2) : But p q H H2 := fun c o n1 n2 h => b c o n1 n2 (a c o n1 n2 h)
theorem But.of_same {p q : Addr} {H H1 : Hp} (a : Same H H1) : But p q H H1 := fun c o _ _ h => a c o h
theorem But.updP {p q : Addr} {H : Hp} {o : HO} : But p q H (upd H p o) := fun c u n1 _ h => by rw [upd_ne n1]; exact h
theorem But.updQ {p q : Addr} {H : Hp} {o : HO} : But p q H (upd H q o) := fun c u _ n2 h => by rw [upd_ne n2]; exact h
theorem PoolAt.same {H H' : Hp} {p q : Addr} (h : PoolAt H p q) (s : Same H H') : PoolAt H' p q := by
  obtain ⟨ns, i, a, z, b, h1, h2, h3⟩ := h
  exact ⟨ns, i, a, z, b, s _ _ h1, s _ _ h2, h3⟩

def spBegin (K : PySem.W.Frag) : Sp := fun vs H Q _ => ∃ (a : Addr) (ns : List Int), vs = [.ref a] ∧ SqL K H a (ns.map V.int) ∧ ns.length ≤ 63 ∧
  ∀ H' p q, Same H H' → H p = none → H q = none → PoolAt H' p q → Q (.ref p) H'
def spMixed : Sp := fun vs H Q _ => ∃ (p q : Addr) (m : Int), vs = [.ref p, .int m] ∧ PoolAt H p q ∧ 1 ≤ m ∧ m < 10 ^ 40 ∧
  ∀ H' (r : Int), But p q H H' → PoolAt H' p q → 0 ≤ r → r < m → Q (.int r) H'
/-- from a pool a number from 0 to m - 1 -/
def spDraw : Sp := fun vs H Q _ => ∃ (p q : Addr) (m : Int), vs = [.ref p, .int m] ∧ PoolAt H p q ∧ 1 ≤ m ∧ m < 10 ^ 40 ∧
  ∀ H' (r : Int), But p q H H' → PoolAt H' p q → 0 ≤ r → r < m → Q (.int r) H'

theorem map_int_get {ns : List Int} {i : Nat} {y : V} (hi : (ns.map V.int)[i]? = some y) : ∃ u, y = V.int u ∧ ns[i]? = some u := by
  rw [List.getElem?_map] at hi
  cases e : ns[i]? with
  | none => rw [e] at hi; cases hi
  | some u => rw [e] at hi; exact ⟨u, (Option.some.inj hi).symm, rfl⟩

section
variable {P : Program} {w : World} {K : PySem.W.Frag} {mg : Str → Option Value} {base : Heap}
theorem scBegin : FnScope ["script", "seed", "cell"] ["script"] (defScope sBegin) := ⟨rfl, rfl, rfl, by decide +kernel, rfl, by decide +kernel, by decide +kernel⟩
theorem ok_begin {f : Addr} {fd : FuncData} (F : Fun K "_law_begin" "_law_begin" sBegin f fd) (T : PTxt mg) : FnOk P w K mg base CX0 1 f fd ["script"] (spBegin K) := by
  refine F.ok scBegin (fun vs H Q E h => ?_) (fun cdv A outer s H vs Q E hr h => ?_)
  · obtain ⟨a, ns, rfl, _⟩ := h
    rfl
  · obtain ⟨a, ns, rfl, hS, hlen, k⟩ := h
    refine ⟨_, pss_cons (ps_set (i := 1) scBegin.nd rfl (.inl rfl) pe_int)
      (pss_cons (ps_for PassesOwn.never rfl (pi_list (pe_slice sl_list (pv 0) po_none (po_some pe_int))) (pg_name (i := 2) scBegin.nd rfl (.inl rfl))
        (pss_one (ps_set (i := 1) scBegin.nd rfl (.inl rfl) (pe_op op_mod (pe_op op_add (pe_op op_add (pe_op op_mul (pv 1) pe_int) (pe_op op_mod (pe_callTy call_int1 (by rfl) T.int (by decide +kernel) (pa_cons (pv 2) pa_nil)) pe_int)) pe_int) pe_int))))
      (pss_one (ps_ret (pe_lst (pa_cons (pe_lc (own := [("cell", 2)]) (g := gName 2) (by rfl) scBegin.nd (pi_list (pv 0)) (blkOk_by (own := [("cell", 2)]) (N := ["script", "seed", "cell"]) (sc := defScope sBegin) (by decide +kernel))
        (fun _ _ _ _ _ => pg_name (i := 2) scBegin.nd rfl (Or.inl rfl)) (fun _ _ _ _ _ => pts_nil)
        (fun _ _ _ _ _ => pe_callB call_abs (by rfl) T.abs (by decide +kernel) (pa_cons (pe_callTy call_int1 (by rfl) T.int (by decide +kernel) (pa_cons (pv 2) pa_nil)) pa_nil)))
        (pa_cons pe_int (pa_cons pe_int (pa_cons (pv 1) (pa_cons pe_int pa_nil))))))))), ?_⟩
    refine ⟨_, rfl, _, rfl, a, _, rfl, hS, fun p hp => ?_⟩
    refine ⟨p, rfl, ⟨_, .inl (.inl upd_same)⟩, for_list (K := K) (a := p) (xs := cutV (ns.map V.int) none (some 40)) (fun i σ H' => ∃ (z : Int) (v : Option V), σ = [some (.ref a), some (.int z), v] ∧ H' = upd H p (.lst (cutV (ns.map V.int) none (some 40)))) 
      ⟨7, none, rfl, rfl⟩ (fun i σ H' _ ⟨_, _, _, e⟩ => by rw [e]; exact .inl (.inl upd_same)) ?_ ?_⟩
    · rintro i y σ H' hi ⟨z, v, rfl, rfl⟩
      obtain ⟨u, rfl⟩ : ∃ u, y = V.int u := by
        have hm := List.mem_of_getElem? hi
        have hm2 := List.mem_of_mem_drop (List.mem_of_mem_take hm)
        obtain ⟨u, _, e⟩ := List.mem_map.mp hm2
        exact ⟨u, e.symm⟩
      refine ⟨_, rfl, _, _, rfl, rfl, .inr ⟨by decide, by decide⟩, _, rfl, .inl ⟨_, rfl, _, _, rfl, rfl, (by show (0 : Int) < 2147483647; decide), _, _, rfl, rfl, _, _, rfl, rfl, _, _, rfl, rfl, (by show (0 : Int) < 2147483647; decide), _, _, rfl, rfl⟩⟩
    · rintro σ H' ⟨z, v, rfl, rfl⟩
      have sp : Same H (upd H p (.lst (cutV (ns.map V.int) none (some 40)))) := fun b o e => by
        rw [upd_ne (ne_of_none e hp)]
        exact e
      refine ⟨_, rfl, a, rfl, ⟨_, sp.seq hS⟩, fun D hD => ?_⟩
      have hS1 := sp.seq hS
      generalize hH1 : upd H p (.lst (cutV (ns.map V.int) none (some 40))) = H1 at *
      have sD : ∀ u, Same H1 (upd H1 D u) := fun u b o e => by
        rw [upd_ne (ne_of_none e hD)]
        exact e
      refine lc_list (K := K) (a := a) (xs := ns.map V.int) (fun i H' => ∃ zs : List Int, H' = upd H1 D (.lst (zs.map V.int)) ∧ zs.length = i ∧ ∀ n ∈ zs, 0 ≤ n) ⟨[], rfl, rfl, fun _ h => nomatch h⟩ (fun i H' _ ⟨zs, e, _⟩ => by rw [e]; exact (sD _).seq hS1) ?_ ?_
      · rintro i y H' hi ⟨zs, rfl, hz, hp0⟩
        obtain ⟨u, rfl, hu⟩ := map_int_get hi
        have hi63 : i < ns.length := (List.getElem?_eq_some_iff.mp hu).1
        refine ⟨rfl, _, rfl, .inl ⟨_, rfl, _, rfl, _, upd_same, ?_, zs ++ [if u < 0 then -u else u], ?_, ?_, ?_⟩⟩
        · rw [List.length_map]
          exact Nat.lt_of_le_of_lt (show zs.length ≤ 63 by omega) (by decide)
        · rw [upd_upd, List.map_append]
          rfl
        · rw [List.length_append, hz]
          rfl
        · intro n hn
          rcases List.mem_append.mp hn with h | h
          · exact hp0 n h
          · rw [List.mem_singleton.mp h]
            split <;> omega
      · rintro H' ⟨zs, rfl, hz, hp0⟩
        refine ⟨_, rfl, (by show 5 ≤ sizeLine; decide), fun p2 hp2 => ?_⟩
        have nDp : D ≠ p2 := fun e => by
          rw [← e, upd_same] at hp2
          cases hp2
        have hp2' : H1 p2 = Option.none := by
          rw [upd_ne nDp.symm] at hp2
          exact hp2
        refine k _ p2 D (Same.trans sp (fun b o e => ?_)) (sp.free hp2') (sp.free hD) ⟨zs, 0, 0, z, 0, upd_same, ?_, by decide, hp0⟩
        · rw [upd_ne (ne_of_none e hp2')]
          exact sD _ _ _ e
        · rw [upd_ne nDp, upd_same]

theorem numlen {m : Int} (h0 : 0 ≤ m) (h1 : m < 10 ^ 40) : (Str.ofString (toString m)).length ≤ 40 := PyProof.Rows.toString_length_le h0 (by decide) h1

theorem natlt {m : Int} (h1 : 1 ≤ m) (h2 : m < 10 ^ 40) : m.natAbs < 2 ^ 140 := by
  have e : (10 : Int) ^ 40 ≤ 2 ^ 140 := by decide
  have e2 : ((2 ^ 140 : Nat) : Int) = (2 : Int) ^ 140 := by decide
  omega
theorem natlog {m : Int} (h1 : 1 ≤ m) (h2 : m < 10 ^ 40) : m.natAbs.log2 < 140 := PySem.Flt.log2_lt_of (by decide) (natlt h1 h2)
theorem scMixed : FnScope ["pool", "many", "found", "turn"] ["pool", "many"] (defScope sMixed) := ⟨rfl, rfl, rfl, by decide +kernel, rfl, by decide +kernel, by decide +kernel⟩
theorem ok_mixed {f : Addr} {fd : FuncData} (F : Fun K "_law_mixed" "_law_mixed" sMixed f fd) (T : PTxt mg) : FnOk P w K mg base CX0 1 f fd ["pool", "many"] spMixed := by
  refine F.ok scMixed (fun vs H Q E h => ?_) (fun cdv A outer s H vs Q E hr h => ?_)
  · obtain ⟨p, q, m, rfl, _⟩ := h
    rfl
  · obtain ⟨p, q, m, rfl, hP, h1, h2, k⟩ := h
    have npq := hP.ne
    obtain ⟨ns, i, a, z, b, hp, hq, hi, hns⟩ := hP
    refine ⟨_, pss_cons (ps_asg (pe_op op_add (pe_ix ix_list (pv 0) pe_int (fun _ _ => rfl)) pe_int) (pg_sub (pv 0) pe_int set_list))
      (pss_cons (ps_set (i := 2) scMixed.nd rfl (.inl rfl) (pe_ix ix_list (pv 0) pe_int (fun _ _ => rfl)))
      (pss_cons (ps_for PassesOwn.never rfl (pi_range1 rfl T.range (pa_cons (pe_op op_add pe_int (pe_op op_fdiv (pe_callB call_len_str (by rfl) T.len PySem.boot_len (pa_cons (pe_callTy call_str_int (by rfl) T.str (by decide +kernel) (pa_cons (pv 1) pa_nil)) pa_nil)) pe_int)) pa_nil)) (pg_name (i := 3) scMixed.nd rfl (.inl rfl))
        (pss_cons (ps_asg (pe_op op_mod (pe_op op_add (pe_op op_add (pe_op op_mul (pe_ix ix_list (pv 0) pe_int (fun _ _ => rfl)) pe_int) (pe_op op_mul (pe_ix ix_list (pv 0) pe_int (fun _ _ => rfl)) pe_int)) pe_int) pe_int) (pg_sub (pv 0) pe_int set_list))
        (pss_one (ps_set (i := 2) scMixed.nd rfl (.inl rfl) (pe_op op_add (pe_op op_mul (pv 2) pe_int) (pe_op op_fdiv (pe_ix ix_list (pv 0) pe_int (fun _ _ => rfl)) pe_int))))))
      (pss_one (ps_ret (pe_op op_mod (pv 2) (pv 1)))))), ?_⟩
    refine ⟨_, rfl, p, _, 2, _, rfl, rfl, .inl (.inl hp), rfl, _, _, rfl, rfl, _, rfl, p, _, 2, 2, rfl, rfl, hp, rfl, ?_⟩
    refine ⟨_, rfl, p, _, 3, _, rfl, rfl, .inl (.inl upd_same), rfl, ?_⟩
    have hl := numlen (by omega : 0 ≤ m) h2
    have hlog : m.natAbs.log2 < 1920 := Nat.lt_trans (natlog h1 h2) (by decide)
    refine ⟨_, rfl, _, rfl, hlog, _, rfl, Nat.le_trans hl (by decide), _, _, rfl, rfl, ⟨by decide, by decide⟩, _, _, rfl, rfl, _, rfl, ?_, ?_, ?_⟩
    · show -(2 ^ 62) ≤ (1 : Int) + ((Str.ofString (toString m)).length : Int) / 9
      omega
    · show (1 : Int) + ((Str.ofString (toString m)).length : Int) / 9 < 2 ^ 62
      omega
    · refine for_range (lo := 0) (n := ((1 : Int) + ((Str.ofString (toString m)).length : Int) / 9).toNat) (fun j σ H' => ∃ (s' f' : Int) (v : Option V), σ = [some (.ref p), some (.int m), some (.int f'), v] ∧ H' = upd H p (.lst [.ref q, .int i, .int (a + 1), .int s', .int b]))
        ⟨_, _, none, rfl, rfl⟩ ?_ ?_
      · rintro j σ H' _ ⟨s', f', v, rfl, rfl⟩
        refine ⟨_, rfl, p, _, 3, _, rfl, rfl, .inl (.inl upd_same), rfl, _, _, rfl, rfl, .inr ⟨by decide, by decide⟩, _, rfl, p, _, 2, _, rfl, rfl, .inl (.inl upd_same), rfl, _, _, rfl, rfl, .inr ⟨by decide, by decide⟩, _, _, rfl, rfl, _, _, rfl, rfl, _, _, rfl, rfl, (by show (0 : Int) < 2147483647; decide), _, rfl, p, _, 3, 3, rfl, rfl, upd_same, rfl, ?_⟩
        refine ⟨_, rfl, _, _, rfl, rfl, .inr ⟨by decide, by decide⟩, _, rfl, p, _, 3, _, rfl, rfl, .inl (.inl upd_same), rfl, _, _, rfl, rfl, ⟨by decide, by decide⟩, _, _, rfl, rfl, ?_⟩
        exact ⟨_, _, _, rfl, by rw [upd_upd]; rfl⟩
      · rintro σ H' ⟨s', f', v, rfl, rfl⟩
        refine ⟨_, rfl, _, rfl, _, _, rfl, rfl, (by show (0 : Int) < m; omega), ?_⟩
        exact k _ _ But.updP ⟨ns, i, a + 1, s', b, upd_same, by rw [upd_ne npq.symm]; exact hq, hi, hns⟩ (Int.emod_nonneg _ (by omega)) (Int.emod_lt_of_pos _ (by omega))

theorem ixN_nat {n i : Nat} (h : i < n) : ixN n (i : Int) = some i := by
  unfold ixN
  rw [if_pos (by omega), if_pos (by omega), Int.toNat_natCast]
theorem scDraw : FnScope ["pool", "many", "found"] ["pool", "many"] (defScope sDraw) := ⟨rfl, rfl, rfl, by decide +kernel, rfl, by decide +kernel, by decide +kernel⟩
theorem ok_draw {f fM : Addr} {fd fdM : FuncData} (F : Fun K "_law_draw" "_law_draw" sDraw f fd) (T : PTxt mg) (FM : Fun K "_law_mixed" "_law_mixed" sMixed fM fdM) (bM : Binds K fdM ["pool", "many"] []) (gM : mg "_law_mixed" = some (.ref fM)) : FnOk P w K mg base CX0 2 f fd ["pool", "many"] spDraw := by
  have GM : FnOk P w K mg base CX0 1 fM fdM ["pool", "many"] spMixed := ok_mixed FM T
  refine F.ok scDraw (fun vs H Q E h => ?_) (fun cdv A outer s H vs Q E hr h => ?_)
  · obtain ⟨p, q, m, rfl, _⟩ := h
    rfl
  · obtain ⟨p, q, m, rfl, hP, h1, h2, k⟩ := h
    have npq := hP.ne
    have hP0 := hP
    obtain ⟨ns, i, a, z, b, hp, hq, hi, hns⟩ := hP
    refine ⟨_, pss_cons (ps_if (PW.pt (pw_or (pt_cmpR op_ge (pe_ix ix_list (pv 0) pe_int (fun _ _ => rfl)) (pe_callB call_len_seq (by rfl) T.len PySem.boot_len (pa_cons (pe_ix ix_list (pv 0) pe_int (fun _ _ => rfl)) pa_nil)) (nomark _)) (pw_or1 (pt_cmpR op_eq (pv 1) pe_int (nomark _)))))
        (pss_one (ps_ret (pe_ifExp (pt_cmpR op_gt (pv 1) pe_int (nomark _)) (pe_call GM hr rfl gM FM.kp bM .nil pass0 (pa_cons (pv 0) (pa_cons (pv 1) pa_nil))) pe_int))) pss_nil)
      (pss_cons (ps_if (pt_cmpR op_lt (pe_ix ix_list (pe_ix ix_list (pv 0) pe_int (fun _ _ => rfl)) (pe_ix ix_list (pv 0) pe_int (fun _ _ => rfl)) (fun _ _ => rfl)) (pe_op op_pow pe_int pe_int) (nomark _))
        (pss_cons (ps_asg (pe_op op_mod (pe_op op_add (pe_op op_add (pe_op op_add (pe_op op_mul (pe_ix ix_list (pv 0) pe_int (fun _ _ => rfl)) pe_int) (pe_ix ix_list (pe_ix ix_list (pv 0) pe_int (fun _ _ => rfl)) (pe_ix ix_list (pv 0) pe_int (fun _ _ => rfl)) (fun _ _ => rfl))) (pe_ix ix_list (pv 0) pe_int (fun _ _ => rfl))) pe_int) pe_int) (pg_sub (pv 0) pe_int set_list))
        (pss_cons (ps_asg (pe_op op_add (pe_ix ix_list (pv 0) pe_int (fun _ _ => rfl)) pe_int) (pg_sub (pv 0) pe_int set_list))
        (pss_cons (ps_if (pt_cmpR op_eq (pe_op op_mod (pe_ix ix_list (pv 0) pe_int (fun _ _ => rfl)) pe_int) pe_int (nomark _)) (pss_one (ps_asg (pe_op op_add (pe_ix ix_list (pv 0) pe_int (fun _ _ => rfl)) pe_int) (pg_sub (pv 0) pe_int set_list))) pss_nil)
        (pss_one (ps_ret (pe_call GM hr rfl gM FM.kp bM .nil pass0 (pa_cons (pv 0) (pa_cons (pv 1) pa_nil)))))))) pss_nil)
      (pss_cons (ps_set (i := 2) scDraw.nd rfl (.inl rfl) (pe_op op_mod (pe_ix ix_list (pe_ix ix_list (pv 0) pe_int (fun _ _ => rfl)) (pe_ix ix_list (pv 0) pe_int (fun _ _ => rfl)) (fun _ _ => rfl)) (pv 1)))
      (pss_cons (ps_asg (pe_op op_fdivW (pe_ix ix_list (pe_ix ix_list (pv 0) pe_int (fun _ _ => rfl)) (pe_ix ix_list (pv 0) pe_int (fun _ _ => rfl)) (fun _ _ => rfl)) (pv 1)) (pg_sub (pe_ix ix_list (pv 0) pe_int (fun _ _ => rfl)) (pe_ix ix_list (pv 0) pe_int (fun _ _ => rfl)) set_list))
      (pss_cons (ps_if (pt_cmpR op_eq (pe_ix ix_list (pe_ix ix_list (pv 0) pe_int (fun _ _ => rfl)) (pe_ix ix_list (pv 0) pe_int (fun _ _ => rfl)) (fun _ _ => rfl)) pe_int (nomark _)) (pss_one (ps_asg (pe_op op_add (pe_ix ix_list (pv 0) pe_int (fun _ _ => rfl)) pe_int) (pg_sub (pv 0) pe_int set_list))) pss_nil)
      (pss_one (ps_ret (pv 2))))))), ?_⟩
    have sp : SqL K H p [.ref q, .int i, .int a, .int z, .int b] := .inl (.inl hp)
    have sq : SqL K H q (ns.map V.int) := .inl (.inl hq)
    have cmix : ∀ H1 : Hp, But p q H H1 → PoolAt H1 p q → spMixed [.ref p, .int m] H1 Q E := fun H1 e1 e2 => ⟨p, q, m, rfl, e2, h1, h2, fun H2 r b2 p2 r0 r1 => k H2 r (e1.trans b2) p2 r0 r1⟩
    -- if pool[1] >= len(pool[0]) or many == 1
    refine ⟨_, rfl, p, _, 1, _, rfl, rfl, sp, rfl, _, rfl, p, _, 0, _, rfl, rfl, sp, rfl, q, _, rfl, .inl sq, _, _, rfl, rfl, _, rfl, ?_⟩
    have hlen : ((ns.map V.int).length : Int) = (ns.length : Int) := by rw [List.length_map]
    refine ite2 (fun _ => ?_) (fun hlt => ?_)
    · refine ⟨_, rfl, _, _, rfl, rfl, _, rfl, ite2 (fun _ => ?_) (fun e => ?_)⟩
      · exact ⟨_, rfl, _, rfl, cmix H (But.refl _ _ _) hP0⟩
      · exact k H 0 (But.refl _ _ _) hP0 (by omega) (by omega)
    · refine ⟨_, rfl, rfl, _, rfl, ite2 (fun e => ?_) (fun hm1 => ?_)⟩
      · refine ⟨_, rfl, _, _, rfl, rfl, _, rfl, ite2 (fun _ => ?_) (fun e => ?_)⟩
        · exact ⟨_, rfl, _, rfl, cmix H (But.refl _ _ _) hP0⟩
        · exact k H 0 (But.refl _ _ _) hP0 (by omega) (by omega)
      · have hil : i < (ns.length : Int) := by
          have := hlt
          simp only [decide_eq_true_eq] at this
          omega
        obtain ⟨j, rfl⟩ : ∃ j : Nat, i = (j : Int) := ⟨i.toNat, by omega⟩
        have hj : j < ns.length := by omega
        obtain ⟨x, hx⟩ : ∃ x, ns[j]? = some x := ⟨ns[j], List.getElem?_eq_getElem hj⟩
        have hxm : (ns.map V.int)[j]? = some (V.int x) := by rw [List.getElem?_map, hx]; rfl
        have hat : atI (ns.map V.int) (j : Int) = some (V.int x) := atI_nat hxm
        have hx0 : 0 ≤ x := hns x (List.mem_of_getElem? hx)
        have hixN : ixN (ns.map V.int).length (j : Int) = some j := ixN_nat (by rw [List.length_map]; exact hj)
        -- if pool[0][pool[1]] < 10 ** 18
        refine ⟨_, rfl, p, _, 0, _, rfl, rfl, sp, rfl, _, rfl, p, _, 1, _, rfl, rfl, sp, rfl, q, _, _, _, rfl, rfl, sq, hat, _, _, rfl, rfl, ⟨by decide, by decide, by decide⟩, _, _, rfl, rfl, _, rfl, ite2 (fun _ => ?_) (fun _ => ?_)⟩
        · refine ⟨_, rfl, p, _, 3, _, rfl, rfl, sp, rfl, _, _, rfl, rfl, .inr ⟨by decide, by decide⟩, _, rfl, p, _, 0, _, rfl, rfl, sp, rfl, _, rfl, p, _, 1, _, rfl, rfl, sp, rfl, q, _, _, _, rfl, rfl, sq, hat, _, _, rfl, rfl, _, rfl, p, _, 2, _, rfl, rfl, sp, rfl, _, _, rfl, rfl, _, _, rfl, rfl, _, _, rfl, rfl, (by show (0 : Int) < 2147483647; decide), _, rfl, p, _, 3, 3, rfl, rfl, hp, rfl, ?_⟩
          refine ⟨_, rfl, p, _, 4, _, rfl, rfl, .inl (.inl upd_same), rfl, _, _, rfl, rfl, _, rfl, p, _, 4, 4, rfl, rfl, upd_same, rfl, ?_⟩
          rw [upd_upd]
          refine ⟨_, rfl, p, _, 4, _, rfl, rfl, .inl (.inl upd_same), rfl, _, _, rfl, rfl, (by show (0 : Int) < 3; decide), rfl, _, rfl, ite2 (fun _ => ?_) (fun _ => ?_)⟩
          · refine ⟨_, rfl, p, _, 1, _, rfl, rfl, .inl (.inl upd_same), rfl, _, _, rfl, rfl, _, rfl, p, _, 1, 1, rfl, rfl, upd_same, rfl, ?_⟩
            rw [upd_upd]
            refine ⟨_, rfl, _, rfl, cmix _ But.updP ⟨ns, (j : Int) + 1, a, (z * 31 + x + a + 1) % 2147483647, b + 1, upd_same, by rw [upd_ne npq.symm]; exact hq, by omega, hns⟩⟩
          · refine ⟨_, rfl, _, rfl, cmix _ But.updP ⟨ns, (j : Int), a, (z * 31 + x + a + 1) % 2147483647, b + 1, upd_same, by rw [upd_ne npq.symm]; exact hq, by omega, hns⟩⟩
        · -- found = pool[0][pool[1]] % many
          refine ⟨_, rfl, p, _, 0, _, rfl, rfl, sp, rfl, _, rfl, p, _, 1, _, rfl, rfl, sp, rfl, q, _, _, _, rfl, rfl, sq, hat, _, rfl, _, _, rfl, rfl, (by show (0 : Int) < m; omega), ?_⟩
          refine ⟨_, rfl, p, _, 0, _, rfl, rfl, sp, rfl, _, rfl, p, _, 1, _, rfl, rfl, sp, rfl, q, _, _, _, rfl, rfl, sq, hat, _, rfl, _, _, rfl, rfl, wide_div (by omega) (natlt h1 h2) (by decide) (by decide), _, rfl, p, _, 0, _, rfl, rfl, sp, rfl, _, rfl, p, _, 1, _, rfl, rfl, sp, rfl, q, _, _, _, rfl, rfl, hq, hixN, ?_⟩
          have eS : (ns.map V.int).set j (V.int (x / m)) = (ns.set j (x / m)).map V.int := by rw [List.map_set]
          rw [eS]
          have hns' : ∀ n ∈ ns.set j (x / m), 0 ≤ n := fun n hn => by
            rcases List.mem_or_eq_of_mem_set hn with h | h
            · exact hns n h
            · rw [h]
              exact Int.ediv_nonneg hx0 (by omega)
          have hp' : (upd H q (HO.lst ((ns.set j (x / m)).map V.int))) p = some (.lst [.ref q, .int (j : Int), .int a, .int z, .int b]) := by
            rw [upd_ne npq]
            exact hp
          have hq' : (upd H q (HO.lst ((ns.set j (x / m)).map V.int))) q = some (.lst ((ns.set j (x / m)).map V.int)) := upd_same
          have hat' : atI ((ns.set j (x / m)).map V.int) (j : Int) = some (V.int (x / m)) := atI_nat (by
            rw [List.getElem?_map, List.getElem?_set_self hj]
            rfl)
          have r0 : 0 ≤ x % m := Int.emod_nonneg _ (by omega)
          have r1 : x % m < m := Int.emod_lt_of_pos _ (by omega)
          have hB : But p q H (upd H q (HO.lst ((ns.set j (x / m)).map V.int))) := But.updQ
          generalize upd H q (HO.lst ((ns.set j (x / m)).map V.int)) = H1 at *
          have sp1 : SqL K H1 p [.ref q, .int (j : Int), .int a, .int z, .int b] := .inl (.inl hp')
          have sq1 : SqL K H1 q ((ns.set j (x / m)).map V.int) := .inl (.inl hq')
          refine ⟨_, rfl, p, _, 0, _, rfl, rfl, sp1, rfl, _, rfl, p, _, 1, _, rfl, rfl, sp1, rfl, q, _, _, _, rfl, rfl, sq1, hat', rfl, _, rfl, ite2 (fun _ => ?_) (fun _ => ?_)⟩
          · refine ⟨_, rfl, p, _, 1, _, rfl, rfl, sp1, rfl, _, _, rfl, rfl, _, rfl, p, _, 1, 1, rfl, rfl, hp', rfl, ?_⟩
            exact ⟨_, rfl, k _ _ (hB.trans But.updP) ⟨_, (j : Int) + 1, a, z, b, upd_same, by rw [upd_ne npq.symm]; exact hq', by omega, hns'⟩ r0 r1⟩
          · exact ⟨_, rfl, k _ _ hB ⟨_, (j : Int), a, z, b, hp', hq', by omega, hns'⟩ r0 r1⟩
end
set_option maxHeartbeats 4000000
/-! ### the errors, caught -/
abbrev sWhich : Stmt := top 28
abbrev sCaught : Stmt := top 29
/-- what the written part says of the errors, for those who catch them -/
structure HTxt (K : PySem.W.Frag) (mg : Str → Option Value) (cH : Addr) (cs : List Addr) : Prop where
  isi : mg "isinstance" = none
  reprN : mg "repr" = none
  gH : mg "HandleError" = some (.ref cH)
  g0 : mg "InvalidNumber" = some (.ref (cs.getD 0 0))
  g1 : mg "InvalidName" = some (.ref (cs.getD 1 0))
  g2 : mg "InvalidRow" = some (.ref (cs.getD 2 0))
  g3 : mg "InvalidSort" = some (.ref (cs.getD 3 0))
  g4 : mg "InvalidProgram" = some (.ref (cs.getD 4 0))
  g5 : mg "InvalidText" = some (.ref (cs.getD 5 0))
  g6 : mg "InvalidBook" = some (.ref (cs.getD 6 0))
  g7 : mg "InvalidHands" = some (.ref (cs.getD 7 0))
  g8 : mg "InvalidStep" = some (.ref (cs.getD 8 0))
  g9 : mg "InvalidEdit" = some (.ref (cs.getD 9 0))
  g10 : mg "InvalidCommand" = some (.ref (cs.getD 10 0))
  g11 : mg "TooMany" = some (.ref (cs.getD 11 0))
  g12 : mg "NothingToUndo" = some (.ref (cs.getD 12 0))
  ex : ∀ i, i < 13 → ExcC K (cs.getD i 0)
  xf : ∀ i, i < 12 → XfC K (cs.getD i 0)
  noV : ∀ i, i < 11 → PySem.W.findIn K (.ref (cs.getD i 0)) "value" = some none
  kit : ∀ i j, i < 13 → j < 13 → PySem.W.kitOne K (.ref (cs.getD i 0)) (.ref (cs.getD j 0)) = some (decide (i = j))
  kitH : ∀ i, i < 13 → PySem.W.kitOne K (.ref (cs.getD i 0)) (.ref cH) = some (decide (i < 11))
  exmH : ∀ i, i < 13 → PySem.W.exmOne K (.ref (cs.getD i 0)) (.ref cH) = some (decide (i < 11))
def whichL : List Str := ["number", "name", "row", "sort", "program", "text", "book", "hands", "step", "edit", "command", "many", "undo"]
/-- which error it is that is caught -/
def spWhichP (K : PySem.W.Frag) (cs : List Addr) (p : Addr × Obj) : Sp := fun vs H Q _ => ∃ i : Nat, vs = [.ref p.1] ∧ i < 13 ∧ p.2.cls = .ref (cs.getD i 0) ∧ (∃ vs, p.2.data = .fields vs) ∧
  (p.2.dict = none ∨ ∃ dd fs, p.2.dict = some dd ∧ H dd = some (.xd fs)) ∧ ∀ H', Same H H' → Q (.str (whichL.getD i "")) H'
theorem same_xd {H H' : Hp} {p : Addr × Obj} (h : p.2.dict = none ∨ ∃ dd fs, p.2.dict = some dd ∧ H dd = some (.xd fs)) (s : Same H H') : p.2.dict = none ∨ ∃ dd fs, p.2.dict = some dd ∧ H' dd = some (.xd fs) := by
  rcases h with h | ⟨dd, fs, h, e⟩
  · exact .inl h
  · exact .inr ⟨dd, fs, h, s _ _ e⟩
section
variable {P : Program} {w : World} {K : PySem.W.Frag} {mg : Str → Option Value} {base : Heap} {cH : Addr} {cs : List Addr}
theorem scWhich : FnScope ["error", "kinds", "names"] ["error"] (defScope sWhich) := ⟨rfl, rfl, rfl, by decide +kernel, rfl, by decide +kernel, by decide +kernel⟩
def kindsL (i : Nat) (n : Nat) : List V := (List.range n).map fun j => V.bl (decide (i = j))
theorem ok_whichP {f : Addr} {fd : FuncData} (F : Fun K "_law_which" "_law_which" sWhich f fd) (T : HTxt K mg cH cs) : FnP P w K mg base 1 f fd ["error"] (spWhichP K cs) := by
  refine fnP_ok F scWhich (fun p vs H Q E h => ?_) (fun cdv A outer s H vs Q E p hr h => ?_)
  · obtain ⟨i, rfl, _⟩ := h
    rfl
  · obtain ⟨i, rfl, hi, c1, c2, c3, k⟩ := h
    have hex := T.ex i hi
    have hp : p ∈ [p] := List.mem_singleton.mpr rfl
    refine ⟨_, (pss_cons (ps_set (i := 1) scWhich.nd rfl (.inl rfl) (pe_lst (pa_cons (pe_callB (id := "isinstance") (r := rIsP K p) (call_isP hp) (by rfl) T.isi (by decide +kernel) (pa_cons (pv 0) (pa_cons (pe_glob (v := .ref (cs.getD 0 0)) rfl T.g0 rfl) pa_nil))) (pa_cons (pe_callB (id := "isinstance") (r := rIsP K p) (call_isP hp) (by rfl) T.isi (by decide +kernel) (pa_cons (pv 0) (pa_cons (pe_glob (v := .ref (cs.getD 1 0)) rfl T.g1 rfl) pa_nil))) (pa_cons (pe_callB (id := "isinstance") (r := rIsP K p) (call_isP hp) (by rfl) T.isi (by decide +kernel) (pa_cons (pv 0) (pa_cons (pe_glob (v := .ref (cs.getD 2 0)) rfl T.g2 rfl) pa_nil))) pa_nil)))))
      (pss_cons (ps_set (i := 1) scWhich.nd rfl (.inl rfl) (pe_op op_cat (pv 1) (pe_lst (pa_cons (pe_callB (id := "isinstance") (r := rIsP K p) (call_isP hp) (by rfl) T.isi (by decide +kernel) (pa_cons (pv 0) (pa_cons (pe_glob (v := .ref (cs.getD 3 0)) rfl T.g3 rfl) pa_nil))) (pa_cons (pe_callB (id := "isinstance") (r := rIsP K p) (call_isP hp) (by rfl) T.isi (by decide +kernel) (pa_cons (pv 0) (pa_cons (pe_glob (v := .ref (cs.getD 4 0)) rfl T.g4 rfl) pa_nil))) (pa_cons (pe_callB (id := "isinstance") (r := rIsP K p) (call_isP hp) (by rfl) T.isi (by decide +kernel) (pa_cons (pv 0) (pa_cons (pe_glob (v := .ref (cs.getD 5 0)) rfl T.g5 rfl) pa_nil))) pa_nil))))))
      (pss_cons (ps_set (i := 1) scWhich.nd rfl (.inl rfl) (pe_op op_cat (pv 1) (pe_lst (pa_cons (pe_callB (id := "isinstance") (r := rIsP K p) (call_isP hp) (by rfl) T.isi (by decide +kernel) (pa_cons (pv 0) (pa_cons (pe_glob (v := .ref (cs.getD 6 0)) rfl T.g6 rfl) pa_nil))) (pa_cons (pe_callB (id := "isinstance") (r := rIsP K p) (call_isP hp) (by rfl) T.isi (by decide +kernel) (pa_cons (pv 0) (pa_cons (pe_glob (v := .ref (cs.getD 7 0)) rfl T.g7 rfl) pa_nil))) (pa_cons (pe_callB (id := "isinstance") (r := rIsP K p) (call_isP hp) (by rfl) T.isi (by decide +kernel) (pa_cons (pv 0) (pa_cons (pe_glob (v := .ref (cs.getD 8 0)) rfl T.g8 rfl) pa_nil))) pa_nil))))))
      (pss_cons (ps_set (i := 1) scWhich.nd rfl (.inl rfl) (pe_op op_cat (pv 1) (pe_lst (pa_cons (pe_callB (id := "isinstance") (r := rIsP K p) (call_isP hp) (by rfl) T.isi (by decide +kernel) (pa_cons (pv 0) (pa_cons (pe_glob (v := .ref (cs.getD 9 0)) rfl T.g9 rfl) pa_nil))) (pa_cons (pe_callB (id := "isinstance") (r := rIsP K p) (call_isP hp) (by rfl) T.isi (by decide +kernel) (pa_cons (pv 0) (pa_cons (pe_glob (v := .ref (cs.getD 10 0)) rfl T.g10 rfl) pa_nil))) (pa_cons (pe_callB (id := "isinstance") (r := rIsP K p) (call_isP hp) (by rfl) T.isi (by decide +kernel) (pa_cons (pv 0) (pa_cons (pe_glob (v := .ref (cs.getD 11 0)) rfl T.g11 rfl) pa_nil))) pa_nil))))))
      (pss_cons (ps_set (i := 1) scWhich.nd rfl (.inl rfl) (pe_op op_cat (pv 1) (pe_lst (pa_cons (pe_callB (id := "isinstance") (r := rIsP K p) (call_isP hp) (by rfl) T.isi (by decide +kernel) (pa_cons (pv 0) (pa_cons (pe_glob (v := .ref (cs.getD 12 0)) rfl T.g12 rfl) pa_nil))) pa_nil))))
      (pss_cons (ps_if (PW.pt (pw_or (pt_cmpR op_ne (pe_bm PySem.F.plainAttrs_list PySem.F.slot_list_count PySem.F.type_list_count mt_count (pv 1) (pa_cons pe_bl pa_nil)) pe_int (nomark _)) (pw_or1 (pt_cmpR op_ne (pe_callB (id := "isinstance") (r := rIsP K p) (call_isP hp) (by rfl) T.isi (by decide +kernel) (pa_cons (pv 0) (pa_cons (pe_glob (v := .ref cH) rfl T.gH rfl) pa_nil))) (pe_cmpR op_lt (pe_bm PySem.F.plainAttrs_list PySem.F.slot_list_index PySem.F.type_list_index mt_index (pv 1) (pa_cons pe_bl pa_nil)) pe_int (nomark _)) (by rfl))))) (pss_one (ps_ret pe_str)) pss_nil)
      (pss_cons (ps_set (i := 2) scWhich.nd rfl (.inl rfl) (pe_lst (pa_cons pe_str (pa_cons pe_str (pa_cons pe_str (pa_cons pe_str (pa_cons pe_str (pa_cons pe_str (pa_cons pe_str (pa_cons pe_str (pa_cons pe_str (pa_cons pe_str (pa_cons pe_str (pa_cons pe_str pa_nil))))))))))))))
      (pss_one (ps_ret (pe_ix ix_list (pe_op op_cat (pv 2) (pe_lst (pa_cons pe_str pa_nil))) (pe_bm PySem.F.plainAttrs_list PySem.F.slot_list_index PySem.F.type_list_index mt_index (pv 1) (pa_cons pe_bl pa_nil)) (fun _ _ => rfl))))))))))), ?_⟩
    refine ⟨_, rfl, _, .ref _, _, decide (i = 0), rfl, c1, c2, hex, c3, .own _, T.kit i 0 hi (by decide), ⟨_, rfl, _, .ref _, _, decide (i = 1), rfl, c1, c2, hex, c3, .own _, T.kit i 1 hi (by decide), ⟨_, rfl, _, .ref _, _, decide (i = 2), rfl, c1, c2, hex, c3, .own _, T.kit i 2 hi (by decide), (by show 3 ≤ sizeLine; decide), fun p0 hp0 => ?_⟩⟩⟩
    have z0 : Same H (upd H p0 (.lst [V.bl (decide (i = 0)), V.bl (decide (i = 1)), V.bl (decide (i = 2))])) := Same.new hp0
    have f0 : (upd H p0 (.lst [V.bl (decide (i = 0)), V.bl (decide (i = 1)), V.bl (decide (i = 2))])) p0 = some (.lst (kindsL i 3)) := upd_same
    generalize upd H p0 (.lst [V.bl (decide (i = 0)), V.bl (decide (i = 1)), V.bl (decide (i = 2))]) = G0 at *
    refine ⟨_, rfl, ⟨_, rfl, _, .ref _, _, decide (i = 3), rfl, c1, c2, hex, (same_xd c3 z0), .own _, T.kit i 3 hi (by decide), ⟨_, rfl, _, .ref _, _, decide (i = 4), rfl, c1, c2, hex, (same_xd c3 z0), .own _, T.kit i 4 hi (by decide), ⟨_, rfl, _, .ref _, _, decide (i = 5), rfl, c1, c2, hex, (same_xd c3 z0), .own _, T.kit i 5 hi (by decide), (by show 3 ≤ sizeLine; decide), fun l1 hl1 => ⟨p0, l1, kindsL i 3, [V.bl (decide (i = 3)), V.bl (decide (i = 4)), V.bl (decide (i = 5))], rfl, rfl, (Same.new hl1) _ _ f0, upd_same, (by show 6 ≤ sizeLine; decide), fun p1 hp1 => ?_⟩⟩⟩⟩⟩
    have z1 : Same H (upd (upd G0 l1 (.lst [V.bl (decide (i = 3)), V.bl (decide (i = 4)), V.bl (decide (i = 5))])) p1 (.lst (kindsL i 3 ++ [V.bl (decide (i = 3)), V.bl (decide (i = 4)), V.bl (decide (i = 5))]))) := z0.trans ((Same.new hl1).trans (Same.new hp1))
    have f1 : (upd (upd G0 l1 (.lst [V.bl (decide (i = 3)), V.bl (decide (i = 4)), V.bl (decide (i = 5))])) p1 (.lst (kindsL i 3 ++ [V.bl (decide (i = 3)), V.bl (decide (i = 4)), V.bl (decide (i = 5))]))) p1 = some (.lst (kindsL i 6)) := upd_same
    generalize upd (upd G0 l1 (.lst [V.bl (decide (i = 3)), V.bl (decide (i = 4)), V.bl (decide (i = 5))])) p1 (.lst (kindsL i 3 ++ [V.bl (decide (i = 3)), V.bl (decide (i = 4)), V.bl (decide (i = 5))])) = G1 at *
    refine ⟨_, rfl, ⟨_, rfl, _, .ref _, _, decide (i = 6), rfl, c1, c2, hex, (same_xd c3 z1), .own _, T.kit i 6 hi (by decide), ⟨_, rfl, _, .ref _, _, decide (i = 7), rfl, c1, c2, hex, (same_xd c3 z1), .own _, T.kit i 7 hi (by decide), ⟨_, rfl, _, .ref _, _, decide (i = 8), rfl, c1, c2, hex, (same_xd c3 z1), .own _, T.kit i 8 hi (by decide), (by show 3 ≤ sizeLine; decide), fun l2 hl2 => ⟨p1, l2, kindsL i 6, [V.bl (decide (i = 6)), V.bl (decide (i = 7)), V.bl (decide (i = 8))], rfl, rfl, (Same.new hl2) _ _ f1, upd_same, (by show 9 ≤ sizeLine; decide), fun p2 hp2 => ?_⟩⟩⟩⟩⟩
    have z2 : Same H (upd (upd G1 l2 (.lst [V.bl (decide (i = 6)), V.bl (decide (i = 7)), V.bl (decide (i = 8))])) p2 (.lst (kindsL i 6 ++ [V.bl (decide (i = 6)), V.bl (decide (i = 7)), V.bl (decide (i = 8))]))) := z1.trans ((Same.new hl2).trans (Same.new hp2))
    have f2 : (upd (upd G1 l2 (.lst [V.bl (decide (i = 6)), V.bl (decide (i = 7)), V.bl (decide (i = 8))])) p2 (.lst (kindsL i 6 ++ [V.bl (decide (i = 6)), V.bl (decide (i = 7)), V.bl (decide (i = 8))]))) p2 = some (.lst (kindsL i 9)) := upd_same
    generalize upd (upd G1 l2 (.lst [V.bl (decide (i = 6)), V.bl (decide (i = 7)), V.bl (decide (i = 8))])) p2 (.lst (kindsL i 6 ++ [V.bl (decide (i = 6)), V.bl (decide (i = 7)), V.bl (decide (i = 8))])) = G2 at *
    refine ⟨_, rfl, ⟨_, rfl, _, .ref _, _, decide (i = 9), rfl, c1, c2, hex, (same_xd c3 z2), .own _, T.kit i 9 hi (by decide), ⟨_, rfl, _, .ref _, _, decide (i = 10), rfl, c1, c2, hex, (same_xd c3 z2), .own _, T.kit i 10 hi (by decide), ⟨_, rfl, _, .ref _, _, decide (i = 11), rfl, c1, c2, hex, (same_xd c3 z2), .own _, T.kit i 11 hi (by decide), (by show 3 ≤ sizeLine; decide), fun l3 hl3 => ⟨p2, l3, kindsL i 9, [V.bl (decide (i = 9)), V.bl (decide (i = 10)), V.bl (decide (i = 11))], rfl, rfl, (Same.new hl3) _ _ f2, upd_same, (by show 12 ≤ sizeLine; decide), fun p3 hp3 => ?_⟩⟩⟩⟩⟩
    have z3 : Same H (upd (upd G2 l3 (.lst [V.bl (decide (i = 9)), V.bl (decide (i = 10)), V.bl (decide (i = 11))])) p3 (.lst (kindsL i 9 ++ [V.bl (decide (i = 9)), V.bl (decide (i = 10)), V.bl (decide (i = 11))]))) := z2.trans ((Same.new hl3).trans (Same.new hp3))
    have f3 : (upd (upd G2 l3 (.lst [V.bl (decide (i = 9)), V.bl (decide (i = 10)), V.bl (decide (i = 11))])) p3 (.lst (kindsL i 9 ++ [V.bl (decide (i = 9)), V.bl (decide (i = 10)), V.bl (decide (i = 11))]))) p3 = some (.lst (kindsL i 12)) := upd_same
    generalize upd (upd G2 l3 (.lst [V.bl (decide (i = 9)), V.bl (decide (i = 10)), V.bl (decide (i = 11))])) p3 (.lst (kindsL i 9 ++ [V.bl (decide (i = 9)), V.bl (decide (i = 10)), V.bl (decide (i = 11))])) = G3 at *
    refine ⟨_, rfl, ⟨_, rfl, _, .ref _, _, decide (i = 12), rfl, c1, c2, hex, (same_xd c3 z3), .own _, T.kit i 12 hi (by decide), (by show 1 ≤ sizeLine; decide), fun l4 hl4 => ⟨p3, l4, kindsL i 12, [V.bl (decide (i = 12))], rfl, rfl, (Same.new hl4) _ _ f3, upd_same, (by show 13 ≤ sizeLine; decide), fun p4 hp4 => ?_⟩⟩⟩
    have z4 : Same H (upd (upd G3 l4 (.lst [V.bl (decide (i = 12))])) p4 (.lst (kindsL i 12 ++ [V.bl (decide (i = 12))]))) := z3.trans ((Same.new hl4).trans (Same.new hp4))
    have f4 : (upd (upd G3 l4 (.lst [V.bl (decide (i = 12))])) p4 (.lst (kindsL i 12 ++ [V.bl (decide (i = 12))]))) p4 = some (.lst (kindsL i 13)) := upd_same
    generalize upd (upd G3 l4 (.lst [V.bl (decide (i = 12))])) p4 (.lst (kindsL i 12 ++ [V.bl (decide (i = 12))])) = G4 at *
    have hflat : (kindsL i 13).all flatV = true := rfl
    have key : ∀ i, i < 13 → (kindsL i 13).countP (eqV · (.bl true)) = 1 ∧ (kindsL i 13)[i]? = some (.bl true) ∧ (∀ m, m < i → (kindsL i 13)[m]? = some (.bl false)) ∧ whichL[i]? = some (whichL.getD i "") := by
      decide +kernel
    obtain ⟨q1, q2, q3, q4⟩ := key i hi
    have q3' : ∀ (m : Nat) (z' : V), m < i → (kindsL i 13)[m]? = some z' → eqV z' (.bl true) = false := fun m z' hm e => by
      rw [q3 m hm] at e
      cases e
      rfl
    -- kinds.count(True) != 1 or ..
    refine ⟨_, rfl, .inl ⟨rfl, _, SqL.of f4⟩, p4, _, _, rfl, rfl, SqL.of f4, rfl, hflat, rfl, _, rfl, ?_⟩
    rw [q1]
    refine iteF ⟨_, rfl, _, .ref _, _, decide (i < 11), rfl, c1, c2, hex, same_xd c3 z4, .own _, T.kitH i hi, _, rfl, .inl ⟨rfl, _, SqL.of f4⟩, p4, _, _, i, _, rfl, rfl, SqL.of f4, rfl, hflat, q2, rfl, q3', _, _, rfl, rfl, rfl, _, rfl, ?_⟩
    have e11 : (decide ((i : Int) < 11)) = decide (i < 11) := decide_eq_decide.mpr (by omega)
    refine iteNS (c := V.bl (decide (i < 11)) = V.bl (decide ((i : Int) < 11))) (by rw [e11]) ?_
    refine ⟨(by show 12 ≤ sizeLine; decide), fun p5 hp5 => ⟨_, rfl, (by show 1 ≤ sizeLine; decide), fun l6 hl6 => ⟨p5, l6, _, _, rfl, rfl, (Same.new hl6) _ _ upd_same, upd_same, (by show 13 ≤ sizeLine; decide), fun p6 hp6 => ?_⟩⟩⟩
    have s5 := ((Same.new (o := .lst [.str "number", .str "name", .str "row", .str "sort", .str "program", .str "text", .str "book", .str "hands", .str "step", .str "edit", .str "command", .str "many"]) hp5).trans (Same.new (o := .lst [.str "undo"]) hl6)).trans
      (Same.new (o := .lst ([.str "number", .str "name", .str "row", .str "sort", .str "program", .str "text", .str "book", .str "hands", .str "step", .str "edit", .str "command", .str "many"] ++ [.str "undo"])) hp6)
    have g4 := s5 _ _ f4
    have q4' : (([.str "number", .str "name", .str "row", .str "sort", .str "program", .str "text", .str "book", .str "hands", .str "step", .str "edit", .str "command", .str "many"] : List V) ++ [.str "undo"])[i]? = some (.str (whichL.getD i "")) := by
      have e : (([.str "number", .str "name", .str "row", .str "sort", .str "program", .str "text", .str "book", .str "hands", .str "step", .str "edit", .str "command", .str "many"] : List V) ++ [.str "undo"]) = whichL.map V.str := rfl
      rw [e, List.getElem?_map, q4]
      rfl
    refine ⟨_, rfl, .inl ⟨rfl, _, SqL.of g4⟩, p4, _, _, i, _, rfl, rfl, SqL.of g4, rfl, hflat, q2, rfl, q3', ?_⟩
    exact ⟨p6, _, (i : Int), _, rfl, rfl, SqL.of upd_same, atI_nat q4', k _ (z4.trans s5)⟩
theorem scCaught : FnScope ["call", "e"] ["call"] (defScope sCaught) := ⟨rfl, rfl, rfl, by decide +kernel, rfl, by decide +kernel, by decide +kernel⟩
end

/-- _law_which, by the error's class and dict alone -/
def spWh (K : PySem.W.Frag) (cs : List Addr) (a : Addr) (cls : Value) (d : Option Addr) : Sp := fun vs H Q _ => ∃ i : Nat, vs = [.ref a] ∧ i < 13 ∧ cls = .ref (cs.getD i 0) ∧
  (d = none ∨ ∃ dd fs, d = some dd ∧ H dd = some (.xd fs)) ∧ ∀ H', Same H H' → Q (.str (whichL.getD i "")) H'
theorem spWh_imp {K : PySem.W.Frag} {cs : List Addr} {a : Addr} {oe : Obj} {cls : Value} {d : Option Addr} (hz : Zc cls d oe) (hf : ∃ vs, oe.data = .fields vs) : ∀ vs H Q E, spWh K cs a cls d vs H Q E → spWhichP K cs (a, oe) vs H Q E := by
  rintro vs H Q E ⟨i, rfl, hi, hc, hd, k⟩
  refine ⟨i, rfl, hi, hz.1.trans hc, hf, ?_, k⟩
  have e : oe.dict = d := hz.2
  rcases hd with hd | ⟨dd, fs, hd, ed⟩
  · exact .inl (e.trans hd)
  · exact .inr ⟨dd, fs, e.trans hd, ed⟩
/-- e.f, e the error that is caught, of whatever own class -/
def tXfG (K : PySem.W.Frag) (a : Addr) (cls : Value) (d : Option Addr) (f : Str) (te : TE) : TE := fun σ H Q => te σ H fun x H1 => x = .ref a ∧ ∃ (C dd : Addr) (fs : List (Str × V)) (v : V), cls = .ref C ∧ XfC K C ∧ PySem.W.findIn K (.ref C) f = some none ∧
  d = some dd ∧ H1 dd = some (.xd fs) ∧ fs.lookup f = some v ∧ Q v H1
theorem pe_xfG {X : Cx} {a : Addr} {oe : Obj} {cls : Value} {d : Option Addr} {pn : List (Addr × Obj)} {e : Expr} {te : TE} {pos : Pos} {n : Str} (hz : Zc cls d oe) (hf : ∃ vs, oe.data = .fields vs) (he : PE (X.suite a ((a, oe) :: pn)) e te)
    (hb : attributeBase e n X.env (eval e X.env) = eval e X.env := by rfl) : PE (X.suite a ((a, oe) :: pn)) (.Attribute e n pos) (tXfG X.K a cls d n te) := by
  constructor
  intro pins s σ H Q I h
  refine attr_of hb (thn (he.run pins s σ H _ I h) fun u s1 hh => ?_)
  obtain ⟨x, H1, I1, rx, ex, C, dd, fs, v, ec, T, hno, ed, ea, l, q⟩ := hh
  subst ex
  obtain rfl : u = Value.ref a := rx
  subst ec
  subst ed
  have P1 := I1.pin (a, oe) (List.mem_append_left _ List.mem_cons_self)
  obtain ⟨vs, hd⟩ := hf
  have z : ObjOk X.prog X.w H1 s1.heap dd (.xd fs) := I1.hok dd _ ea
  obtain ⟨mA, hns, hr⟩ := z
  obtain ⟨od, ho, hl⟩ := lookIn_ns hns
  obtain ⟨w, hw, rw'⟩ := RelO.some_of (v := v) (o := mA n) (by rw [← l]; exact hr n)
  have J : PySem.W.InstAt s1.heap a oe C (some od) := ⟨P1.1, hz.1, by unfold PySem.W.notCls; rw [hd], by rw [hz.2]; exact ho⟩
  exact HandSPX.exc_get I1.kIn J T.ga T.gg T.exC (PySem.W.findObj_own T.hdC hno rfl (by rw [hl, hw])) (handed_of rw') ⟨v, H1, I1.tok _, rw', q⟩
abbrev rReprD (K : PySem.W.Frag) : List V → Hp → VK → Prop := fun xs H Q => ∃ v d, xs = [v] ∧ Rp K H v d ∧ okD d = true ∧ Q (.str d.shown) H
/-- what is wished of an error that the lambda raises -/
def ECt (K : PySem.W.Frag) (cs : List Addr) (Q : VK) : XK := fun cls d H' => ∃ (i : Nat) (dd : Addr) (v : V) (dv : PyData), i < 11 ∧ cls = .ref (cs.getD i 0) ∧ d = some dd ∧ H' dd = some (.xd [("value", v)]) ∧ Rp K H' v dv ∧ okD dv = true ∧
  ∀ H'' p, Same H' H'' → H'' p = some (.lst [.str (whichL.getD i ""), .str dv.shown]) → Q (.ref p) H''
/-- _law_caught of a lambda of the reading tl -/
def TTc (K : PySem.W.Frag) (cs : List Addr) (tl : XK → Hp → VK → Prop) : Hp → VK → Prop := fun H Q => ∀ E : XK, (∀ cls d H', ECt K cs Q cls d H' → E cls d H') → tl E H (fun _ H' => Q .non H')
/-- the slots are as many as the names -/
theorem pss_len {X : Cx} {st : List Stmt} {t : TS} (n : Nat) (hn : X.N.length = n) (h : PSs X st t) : PSs X st (fun D σ H => σ.length = n → t D σ H) :=
  ⟨fun pins s σ H D I hq => h.run pins s σ H D I (hq (I.len.trans hn))⟩
section
variable {Z : Cx} {cH fW a : Addr} {fdW : FuncData} {cs : List Addr} {oe : Obj} {cls : Value} {d : Option Addr} {pn : List (Addr × Obj)} {i : Nat}
theorem pe_whichC {p1 p2 p3 : Pos} (GW : FnP Z.prog Z.w Z.K Z.mg Z.base 1 fW fdW ["error"] (spWhichP Z.K cs)) (hr : L2H.RoomH 1 Z.A) (hz : Zc cls d oe) (hf : ∃ vs, oe.data = .fields vs) (hgl : Gl Z "_law_which") (gW : Z.mg "_law_which" = some (.ref fW))
    (hk : PySem.W.keepIn Z.K (.ref fW) = true) (bW : L2.Binds Z.K fdW ["error"] []) (hN : Z.N[i]? = some "e") (hv : Vis Z.env.scope "e") :
    PE (Z.suite a ((a, oe) :: pn)) (.Call (.Name "_law_which" p1) [.Name "e" p2] [] p3) (fun σ H Q => tCons (tVar i) tNil σ H fun vs H1 => spWh Z.K cs a cls d vs H1 Q E0) :=
  pe_callP (X := Z.suite a ((a, oe) :: pn)) (p := (a, oe)) (spr := spWh Z.K cs a cls d) (spWh_imp hz hf) GW ⟨hr.dp, hr.un⟩ (List.mem_cons_self ..) hgl gW hk bW (pa_cons (pv i hN hv) pa_nil)
theorem pe_reprC {p1 p2 p3 p4 : Pos} {f : Str} (hg : Z.A.guards = some []) (hu : Z.A.units + 64 < cLine) (hz : Zc cls d oe) (hf : ∃ vs, oe.data = .fields vs) (hgl : Gl Z "repr") (hm : Z.mg "repr" = none) (hN : Z.N[i]? = some "e") (hv : Vis Z.env.scope "e")
    (hb : attributeBase (.Name "e" p2) f Z.env (eval (.Name "e" p2) Z.env) = eval (.Name "e" p2) Z.env) :
    PE (Z.suite a ((a, oe) :: pn)) (.Call (.Name "repr" p1) [.Attribute (.Name "e" p2) f p3] [] p4) (tCB (rReprD Z.K) (tCons (tXfG Z.K a cls d f (tVar i)) tNil)) :=
  pe_callB (X := Z.suite a ((a, oe) :: pn)) (id := "repr") (r := rReprD Z.K) (call_reprD (X := Z.suite a ((a, oe) :: pn)) hg hu) hgl hm (by decide +kernel) (pa_cons (pe_xfG (X := Z) hz hf (pv i hN hv) hb) pa_nil)
end
section
variable {X : Cx} {cH : Addr} {cs : List Addr}
theorem gives_caught {g fW : Addr} {cdg : Value} {fdW : FuncData} {q : Str} (T : HTxt X.K X.mg cH cs) (FW : Fun X.K "_law_which" "_law_which" sWhich fW fdW) (bW : L2.Binds X.K fdW ["error"] []) (gW : X.mg "_law_which" = some (.ref fW)) (hg : X.A.guards = some [])
    (hr : Room 8 X.A) : LamX.GivesTo X ["call", "e"] "_law_caught" (defScope sCaught) g cdg (defBody sCaught) "call" q (TTc X.K cs) := by
  intro f c' s H Q tl hc hcc hTT
  have GW : FnP X.prog X.w X.K X.mg X.base 1 fW fdW ["error"] (spWhichP X.K cs) := ok_whichP FW T
  have hrH : ∀ env : Env, L2H.RoomH 1 (X.A.deeper env) := fun env => (L2H.roomH_of (hr.deeper env)).mono (by decide)
  have hu : ∀ env : Env, (X.A.deeper env).units + 64 < cLine := fun env => (hr.deeper env).units
  let Z : Cx := (cxOf C8.CX0 X.prog X.w X.K X.mg X.base ["call", "e"] "_law_caught" (defScope sCaught) g cdg X.A X.stack s H C8.E0).nox
  refine ⟨_, pss_cons (X := Z) (ps_try_manyA (X := Z) rfl rfl scCaught.nd takes_none5 (fun W pn xe tk _ => pss_one (ps_expr (hc W pn xe (fun cls d H' => ∀ σ', W cls d σ' H') _ _ tk (fun cls d σ' H' h => h σ'))))
      (.cons (i := 1) ⟨by rfl, by decide, .inl T.gH⟩ rfl rfl (fun a oe cls d pn hz hf => pss_len 2 rfl (pss_one (ps_ret (pe_lst (pa_cons (pe_whichC (Z := Z) (i := 1) (a := a) (pn := pn) GW (hrH _) hz hf (by rfl) gW FW.kp bW rfl (.inl rfl))
          (pa_cons (pe_reprC (Z := Z) (i := 1) (a := a) (pn := pn) hg (hu _) hz hf (by rfl) T.reprN rfl (.inl rfl) rfl) pa_nil))))))
      (.cons (i := 1) ⟨by rfl, by decide, .inl T.g11⟩ rfl rfl (fun a oe cls d pn hz hf => pss_len 2 rfl (pss_one (ps_ret (pe_lst (pa_cons (pe_whichC (Z := Z) (i := 1) (a := a) (pn := pn) GW (hrH _) hz hf (by rfl) gW FW.kp bW rfl (.inl rfl))
          (pa_cons (pe_reprC (Z := Z) (i := 1) (a := a) (pn := pn) hg (hu _) hz hf (by rfl) T.reprN rfl (.inl rfl) rfl) pa_nil))))))
      (.cons (i := 1) ⟨by rfl, by decide, .inl T.g12⟩ rfl rfl (fun a oe cls d pn hz hf => pss_len 2 rfl (pss_one (ps_ret (pe_lst (pa_cons (pe_whichC (Z := Z) (i := 1) (a := a) (pn := pn) GW (hrH _) hz hf (by rfl) gW FW.kp bW rfl (.inl rfl))
          (pa_cons (pe_str (x := Str.ofString "")) pa_nil))))))
      .nil)))) (pss_one (ps_ret pe_non)), ?_⟩
  refine ⟨rfl, hcc, hTT _ fun cls d H' hE σ' => ?_⟩
  obtain ⟨i, dd, v, dv, hi, rfl, rfl, ed, hv, ho, k⟩ := hE
  refine ⟨true, (T.exmH i (by omega)).trans (by rw [decide_eq_true hi]), fun _ a na hlen => ?_, fun q => nomatch q⟩
  have h1 : (σ'.set 1 (some (V.ref a)))[1]? = some (some (V.ref a)) := by
    have : (σ'.set 1 (some (V.ref a))).length = 2 := hlen
    rw [List.length_set] at this
    exact List.getElem?_set_self (by omega)
  refine ⟨_, h1, i, rfl, by omega, rfl, .inr ⟨dd, _, rfl, ed⟩, fun H2 s2 => ?_⟩
  have hv2 : Rp X.K H2 v dv := rp_same hv s2
  refine ⟨_, h1, rfl, cs.getD i 0, dd, _, v, rfl, T.xf i (by omega), T.noV i hi, rfl, s2 _ _ ed, (by simp), v, dv, rfl, hv2, ho, (by show 2 ≤ sizeLine; decide), fun p hp => ?_⟩
  exact k _ p (s2.trans (Same.new hp)) upd_same
end
/-! ### the end of a law: no repr under way, tables of lambdas -/
section
open LamX
/-- the law's own call, tables of code at hand -/
theorem lawGT {cs : List (Addr × Addr)} {CX : CXT} {P : Program} {w : World} {K : PySem.W.Frag} {mg mb : Str → Option Value} {k : Nat} {fa a : Addr} {fd : FuncData} {sp : Sp} {s₁ : Shared} {vs : List Value} {ns : List Int} (dcx : ∀ D e s', CX [] D s₁ (fun _ _ _ => False) e s' → False) (tz : ∀ p ∈ cs, s₁.heap.get? p.2 = some { cls := .none, data := .fields #[] }) (tn : ∀ p ∈ cs, K.lookup p.2 = none) (th : ∀ p ∈ cs, PySem.W.CodeHd s₁.heap p.1 p.2)
    (bmn : ∃ (c : Addr) (y : Obj), mg "__builtins__" = some (.ref c) ∧ c ≠ builtinsNs ∧ s₁.heap.get? c = some y ∧ y.cls = .type "module" ∧ y.dict = some builtinsNs ∧ y.data = .plain) (KX : K.In s₁.heap) (hns : s₁.heap.Ns mainGlobals mg)
    (hb : s₁.heap.Ns builtinsNs mb) (hbb : ∀ x : Str, x ≠ "__name__" → mb x = bootBuiltins x) (hlim : s₁.heap.NoLimit) (hg : s₁.gens = #[])
    (ha : s₁.heap.get? a = some { cls := .type "list", data := .seq vs.toArray }) (hi : PyProof.Rows.IntsAre vs ns) (hl : ns.length ≤ sizeLine) (hr : Room k callerA)
    (F : ∀ base : Heap, K.In base → base.Ns mainGlobals mg → (∀ p ∈ cs, TabB base mg p.1 p.2) → FnG P w K mg base CX k fa fd ["script"] sp) (bind : ∀ (s : Shared) (u : Value), BindsTo s fd ⟨[u], []⟩ [("script", u)])
    (hsp : ∀ H : Hp, (∀ p ∈ cs, H p.2 = some (.tbl #[])) → SqL K H a (ns.map V.int) → sp [.ref a] H (fun v _ => v = .bl true) fun _ _ _ => False) :
    codeAny (model P w) callerA (.call (.ref fa) ⟨[.ref a], []⟩) (fun r s' => r = .ok (.ret (.bool true)) ∧ PySem.OldK s₁.heap s'.heap ∧ s'.os = s₁.os ∧ AllBare s'.gens) s₁ := by
  have rv := vals_ints hi
  have lenV := hi.length
  -- the abstract heap: nothing, or the script, locked
  have go : ∀ H : Hp, (∀ b o, H b = some o → ((∃ p ∈ cs, b = p.2) ∧ o = .tbl #[]) ∨ (b = a ∧ K.lookup a = none ∧ o = .frz { cls := .type "list", data := .seq vs.toArray } (.lst (ns.map V.int)))) → (∀ p ∈ cs, H p.2 = some (.tbl #[])) → SqL K H a (ns.map V.int) →
      codeAny (model P w) callerA (.call (.ref fa) ⟨[.ref a], []⟩) (fun r s' => r = .ok (.ret (.bool true)) ∧ PySem.OldK s₁.heap s'.heap ∧ s'.os = s₁.os ∧ AllBare s'.gens) s₁ := by
    intro H hA hC hS
    have hok : HOk P w H s₁.heap := fun b o q => by
      rcases hA b o q with ⟨⟨p, hp, rfl⟩, rfl⟩ | ⟨rfl, _, rfl⟩
      · exact tz p hp
      exact ⟨ha, by rw [List.length_map]; exact hl, vs, _, rv, ha⟩
    have low : ∀ {b : Addr} {o : Obj}, s₁.heap.get? b = some o → H b = none → (hidT s₁.heap H).get? b = some o := fun e n => hidT_get e n
    have free : ∀ {b : Addr} {o : Obj}, s₁.heap.get? b = some o → (∀ its n, o.data ≠ .seq its n) → o.data ≠ .fields #[] → H b = none := fun {b o} e d d2 => by
      cases q : H b with
      | none => rfl
      | some u =>
        rcases hA b u q with ⟨⟨p, hp, rfl⟩, _⟩ | ⟨rfl, _⟩
        · rw [tz p hp] at e
          cases e
          exact absurd rfl d2
        · rw [ha] at e
          cases e
          exact absurd rfl (d _ _)
    have nsT : ∀ {b : Addr} {m : Str → Option Value}, s₁.heap.Ns b m → (hidT s₁.heap H).Ns b m := fun {b m} z => by
      obtain ⟨o, es, ep, e, d, r⟩ := z
      exact ⟨o, es, ep, low e (free e (fun its n y => by rw [d] at y; cases y) fun y => by rw [d] at y; cases y), d, r⟩
    have kT : K.In (hidT s₁.heap H) := fun b o e => by
      refine low (KX b o e) ?_
      cases q : H b with
      | none => rfl
      | some u =>
        rcases hA b u q with ⟨⟨p, hp, rfl⟩, _⟩ | ⟨rfl, z, _⟩
        · rw [tn p hp] at e
          cases e
        · rw [z] at e
          cases e
    have hM : Mod K mg (hidT s₁.heap H) := by
      obtain ⟨mc, h1, h2⟩ := hlim
      exact ⟨kT, nsT hns, ⟨mb, nsT hb, hbb⟩, ⟨mc, nsT h1, h2⟩⟩
    have hT : ∀ p ∈ cs, TabB (hidT s₁.heap H) mg p.1 p.2 := fun p hp => by
      have tp := tz p hp
      refine ⟨?_, ?_, fun z => ?_⟩
      · obtain ⟨y, q1, q2, q3, q4, q5, q6, q7, q8, g, c1, c2, c3, c4, c5, c6, c7, c8, c9⟩ := th p hp
        exact ⟨y, q1, q2, q3, q4, q5, q6, q7, q8, low g (free g (fun its n z => by rw [c2] at z; cases z) fun z => by rw [c2] at z; cases z; simp at c3), c1, c2, c3, c4, c5, c6, c7, c8, c9⟩
      · obtain ⟨c, y, g1, g2, g3, g4, g5, g6⟩ := bmn
        refine ⟨c, y, g1, g2, fun z => ?_, fun z => ?_, low g3 (free g3 (fun its n z => by rw [g6] at z; cases z) fun z => by rw [g6] at z; cases z), g4, g5, g6⟩
        · obtain ⟨_, _, _, ge, gd, _⟩ := hns
          rw [z, ge] at g3
          cases g3
          rw [gd] at g6
          cases g6
        · rw [z, tp] at g3
          cases g3
          cases g6
      · obtain ⟨_, _, _, ge, gd, _⟩ := hns
        rw [z, tp] at ge
        cases ge
        cases gd
    have e0 : Env0 P w K mg (hidT s₁.heap H) callerA [] s₁ H :=
      ⟨rfl, hM, fun b o e => of_hidT e, Nat.le_of_eq (hidT_size _ _), trivial, fun b hb => (nomatch hb), hok, .of_eq hg⟩
    have run := (F _ kT (nsT hns) hT).run callerA [] s₁ H ⟨[.ref a], []⟩ [.ref a] [.ref a] _ _ rfl hr e0 (bind s₁ (.ref a)) (.cons rfl .nil) (hsp H hC hS)
    refine codeAny_mono run fun r s' h => ?_
    cases r with
    | error e => exact (dcx H e s' h).elim
    | ok fl =>
      cases fl with
      | next => exact False.elim h
      | brk => exact False.elim h
      | cont => exact False.elim h
      | ret u =>
        obtain ⟨v, H', os, bare, un, hok', r', q⟩ := h
        obtain rfl : v = .bl true := q
        obtain rfl : u = Value.bool true := r'
        have kept : ∀ b o, (∀ p ∈ cs, b ≠ p.2) → s₁.heap.get? b = some o → s'.heap.get? b = some o := fun b o nb e => by
          cases q : H b with
          | none => exact un.keep b o e q (fun z => nomatch z) (fun z => nomatch z)
          | some u =>
            rcases hA b u q with ⟨⟨p, hp, rfl⟩, _⟩ | ⟨rfl, _, rfl⟩
            · exact absurd rfl (nb p hp)
            have z := un.frzs b _ _ q
            rw [ha] at e
            cases e
            exact (hok' b _ z).1
        have more : ∀ p ∈ cs, ∃ ys : Array Value, s'.heap.get? p.2 = some { cls := .none, data := .fields ys } := fun p hp => by
          obtain ⟨ys, z⟩ := un.tbls _ _ (hC p hp)
          exact ⟨_, hok' _ _ z⟩
        have split : ∀ b : Addr, (∃ p ∈ cs, b = p.2) ∨ ∀ p ∈ cs, b ≠ p.2 := fun b => by
          by_cases z : ∃ p ∈ cs, b = p.2
          · exact .inl z
          · exact .inr fun p hp e => z ⟨p, hp, e⟩
        refine ⟨rfl, ⟨fun b o e => ?_, fun b o e => ?_⟩, os, bare⟩
        · rcases split b with ⟨p, hp, rfl⟩ | nb
          · obtain ⟨ys, hys⟩ := more p hp
            rw [tz p hp] at e
            cases e
            exact .inr (.inl ⟨((th p hp).tab (tz p hp)).isCodeTable, rfl, #[], ys, rfl, by rw [hys, Array.empty_append]⟩)
          · exact .inl (kept b o nb e)
        · rcases split b with ⟨p, hp, rfl⟩ | nb
          · obtain ⟨ys, hys⟩ := more p hp
            exact ⟨_, hys⟩
          · exact ⟨o, kept b o nb e⟩
  have aT : ¬ ∃ p ∈ cs, a = p.2 := fun ⟨p, hp, e⟩ => by
    have q := tz p hp
    rw [← e, ha] at q
    cases q
  cases hk : K.lookup a with
  | some o =>
    have e := KX a o hk
    rw [ha] at e
    cases e
    refine go (fun b => open Classical in if ∃ p ∈ cs, b = p.2 then some (.tbl #[]) else none) (fun b o z => ?_) (fun p hp => if_pos ⟨p, hp, rfl⟩) (.inr ⟨_, vs.toArray, _, hk, rfl, rfl, rfl, ?_, by simpa using rv⟩)
    · by_cases hb : ∃ p ∈ cs, b = p.2
      · exact .inl ⟨hb, by have q := (if_pos hb).symm.trans z; cases q; rfl⟩
      · have q := (if_neg hb).symm.trans z
        cases q
    · rw [List.size_toArray, lenV]
      exact hl
  | none =>
    refine go (fun b => open Classical in if ∃ p ∈ cs, b = p.2 then some (.tbl #[]) else if b = a then some (.frz { cls := .type "list", data := .seq vs.toArray } (.lst (ns.map V.int))) else none) (fun b o z => ?_) (fun p hp => if_pos ⟨p, hp, rfl⟩)
      (.inl (.inr ⟨_, (if_neg aT).trans (if_pos rfl)⟩))
    by_cases hb : ∃ p ∈ cs, b = p.2
    · exact .inl ⟨hb, by have q := (if_pos hb).symm.trans z; cases q; rfl⟩
    · have q := (if_neg hb).symm.trans z
      by_cases hb2 : b = a
      · exact .inr ⟨hb2, hk, (Option.some.inj ((if_pos hb2).symm.trans q)).symm⟩
      · have q2 := (if_neg hb2).symm.trans q
        cases q2
theorem walkGT {CX : World → CXT} {l : PySem.W.OpenLaw} {k : Nat} {q : Program} {loose : List Str} {XP : (Str → Option Value) → Heap → Prop} {YP : World → Heap → Prop} {d : DefRec} {K : Params → PySem.W.Frag} (hn : l.most = some 63) (hdf : d.params.defaults = [])
    (hr : Room k callerA) (hY : ∀ (w : World) (h : Heap), YP w h → (K w.params).In h)
    (dcx : ∀ (w : World) D s e s', CX w [] D s (fun _ _ _ => False) e s' → False)
    (F : ∀ (w : World) (mg : Str → Option Value) (fa : Addr) (h : Heap), YP w h → (K w.params).In h → h.Ns mainGlobals mg → mg d.name = some (.ref fa) →
      ∃ (fd : FuncData) (cs : List (Addr × Addr)) (sp : Sp), (∀ p ∈ cs, h.get? p.2 = some { cls := .none, data := .fields #[] } ∧ (K w.params).lookup p.2 = none ∧ PySem.W.CodeHd h p.1 p.2) ∧
        (∀ (H : Hp) (a : Addr) (ns : List Int), ns.length ≤ 63 → (∀ z ∈ ns, Builtin.Int.intBits z ≤ 1048576) → (∀ p ∈ cs, H p.2 = some (.tbl #[])) → SqL (K w.params) H a (ns.map V.int) → sp [.ref a] H (fun v _ => v = .bl true) fun _ _ _ => False) ∧
        (∀ (s : Shared) (u : Value), BindsTo s fd ⟨[u], []⟩ [("script", u)]) ∧
        ∀ base : Heap, (K w.params).In base → base.Ns mainGlobals mg → (∀ p ∈ cs, TabB base mg p.1 p.2) → FnG l.prog w (K w.params) mg base (CX w) k fa fd ["script"] sp) :
    PySem.W.WalkO q loose XP YP l.row.toRowW d [] (fun f vs => PySem.call f vs) := by
  refine Att.attach_callB hn hdf fun w s₀ s₁ mg mb fa o pm cd doc a vs ns G Y ho hd hcd hmg hobj hints hlen hbits hg => ?_
  have KX := hY w _ Y
  obtain ⟨fd, cs, sp, hcs, hsp, hb, hF⟩ := F w mg fa _ Y KX G.T.g hmg
  exact lawGT (fun D e s' => dcx w D s₁ e s') (fun p hp => (hcs p hp).1) (fun p hp => (hcs p hp).2.1) (fun p hp => (hcs p hp).2.2) G.T.bmain KX G.T.g G.T.b G.T.builtins G.T.nolimit hg hobj hints (Nat.le_trans hlen (by decide)) hr hF hb
    fun H hC hS => hsp H a ns hlen hbits hC hS
end
/-! ### rules of my own -/
section
variable {X : Cx}
/-- == of a list (a tuple) and an empty one -/
def rEqNil (K : PySem.W.Frag) : V → V → Hp → VK → Prop := fun x y H Q => ∃ (p q : Addr) (xs : List V), x = .ref p ∧ y = .ref q ∧ ((SqL K H p xs ∧ SqL K H q []) ∨ (SqT K H p xs ∧ SqT K H q [])) ∧ Q (.bl xs.isEmpty) H
theorem op_eqNil (hu : X.A.units < cLine) : OpR X (compareOp .Eq) (rEqNil X.K) := by
  intro pins s σ H x y v u Q I rx ry h
  obtain ⟨p, q, xs, rfl, rfl, hpq, k⟩ := h
  cases rx
  cases ry
  rcases hpq with ⟨h1, h2⟩ | ⟨h1, h2⟩
  · obtain ⟨its, r, pl, hz⟩ := I.list h1
    obtain ⟨its2, r2, pl2, hz2⟩ := I.list h2
    cases r2
    have hl := r.length
    cases xs with
    | nil =>
      cases r
      exact SeqAt.eq_listAt (e := fun _ => true) pl.isList pl2.isList rfl hu (fun j h1 _ => absurd h1 (Nat.not_lt_zero _)) ⟨.bl true, H, I, rfl, k⟩
    | cons a b =>
      refine SeqAt.eq_list_lengthsAt pl.isList pl2.isList ?_ hu ⟨.bl false, H, I, rfl, k⟩
      cases its with
      | nil => cases r
      | cons c d => simp
  · obtain ⟨its, r, pl, hz⟩ := I.tuple h1
    obtain ⟨its2, r2, pl2, hz2⟩ := I.tuple h2
    cases r2
    have e1 : s.heap.IsTuple p its.toArray := pl
    have e2 : s.heap.IsTuple q #[] := pl2
    refine SeqAt.eq_tupleAt (e := fun _ => true) e1 e2 hu (fun j _ h2 => absurd h2 (Nat.not_lt_zero _)) ⟨.bl xs.isEmpty, H, I, ?_, k⟩
    cases xs with
    | nil => cases r; rfl
    | cons a b =>
      cases its with
      | nil => cases r
      | cons c d =>
        show Value.bool _ = Value.bool false
        congr 1
/-- + of tuples, the left one not empty: some tuple of both -/
def rCatA1 (K : PySem.W.Frag) : V → V → Hp → VK → Prop := fun x y H Q => ∃ a b xs ys, x = .ref a ∧ y = .ref b ∧ SqT K H a xs ∧ H a = some (.tup xs) ∧ SqT K H b ys ∧ xs.length + ys.length ≤ sizeLine ∧ xs ≠ [] ∧
  ∀ p H', (∀ b o, H b = some o → H' b = some o) → H' p = some (.tup (xs ++ ys)) → Q (.ref p) H'
theorem op_catA1 : OpR X (binaryOp .Add) (rCatA1 X.K) := by
  intro pins s σ H x y v u Q I rx ry h
  obtain ⟨a, b, xs, ys, rfl, rfl, h1, h1', h2, hz, hne, q⟩ := h
  refine op_catA pins s σ H _ _ v u Q I rx ry ⟨a, b, xs, ys, rfl, rfl, h1, h2, hz, fun e => absurd e hne, fun _ e => ?_, fun _ _ p hp => ?_⟩
  · subst e
    exact q a H (fun _ _ h => h) (by rw [List.append_nil]; exact h1')
  · exact q p _ (fun b o e => by rw [upd_ne (ne_of_none e hp)]; exact e) upd_same
theorem call_repr_bool : CallR X (.builtin "repr") (fun xs H Q => ∃ b, xs = [.bl b] ∧ Q (.str (if b then "True" else "False")) H) := by
  intro pins s σ H xs us Q I r h
  obtain ⟨b, rfl, q⟩ := h
  obtain ⟨u, rfl, rfl⟩ := vals1 r
  exact PySem.P.repr_of_bool ⟨.str _, H, I.tok _, ⟨_, rfl⟩, q⟩
end

/-- a thing and its built-in kind -/
inductive Kd (H : Hp) : V → String → Prop where
  | non : Kd H .non "NoneType"
  | bl (b : Bool) : Kd H (.bl b) "bool"
  | int (i : Int) : Kd H (.int i) "int"
  | str (z : Str) (h : z.length ≤ 1000) : Kd H (.str z) "str"
  | lst {a : Addr} {xs : List V} (e : H a = some (.lst xs)) : Kd H (.ref a) "list"
  | tup {a : Addr} {xs : List V} (e : H a = some (.tup xs)) : Kd H (.ref a) "tuple"
  | dK {a : Addr} {kvs : List (Key × V)} (e : H a = some (.dK kvs)) : Kd H (.ref a) "dict"
theorem Kd.ty {K : PySem.W.Frag} {H : Hp} {v : V} {n : String} (h : Kd H v n) : TyX K H v (.type n) := by
  cases h with
  | non => exact .base .non
  | bl b => exact .base (.bl b)
  | int i => exact .base (.int i)
  | str z h => exact .base (.str z)
  | lst e => exact .base (.lst e)
  | tup e => exact .base (.tup e)
  | dK e => exact .base (.dK e)
theorem Kd.same {H H' : Hp} {v : V} {n : String} (h : Kd H v n) (s : Same H H') : Kd H' v n := by
  cases h with
  | non => exact .non
  | bl b => exact .bl b
  | int i => exact .int i
  | str z h => exact .str z h
  | lst e => exact .lst (s _ _ e)
  | tup e => exact .tup (s _ _ e)
  | dK e => exact .dK (s _ _ e)
theorem _root_.L2.Same.seqT {K : PySem.W.Frag} {H H' : Hp} {a : Addr} {xs : List V} (e : Same H H') (h : SqT K H a xs) : SqT K H' a xs := by
  rcases h with (h | ⟨o, h⟩) | h
  · exact .inl (.inl (e _ _ h))
  · exact .inl (.inr ⟨o, e _ _ h⟩)
  · exact .inr h
/-- a written tuple -/
def isTupV (oc : Value) (d : PySem.Data) (xs : List V) : Bool := match oc, d with
  | .type n, .seq its _ => (n == "tuple") && decide (its.size ≤ 1000) && decide (its.toList.map absV = xs.map some)
  | _, _ => false
theorem vals_of_abs : ∀ {xs : List V} {us : List Value}, us.map absV = xs.map some → Vals xs us
  | [], [], _ => .nil
  | [], _ :: _, h => by cases h
  | _ :: _, [], h => by cases h
  | x :: xs, u :: us, h => by
    rw [List.map_cons, List.map_cons] at h
    injection h with h1 h2
    refine .cons ?_ (vals_of_abs h2)
    cases u <;> simp only [absV, Option.some.injEq, reduceCtorEq] at h1 <;> subst h1 <;> first | rfl | exact ⟨_, rfl⟩
theorem sqT_written {K : PySem.W.Frag} {H : Hp} {a : Addr} {oc : Value} {od : Option Addr} {d : PySem.Data} {sl : Array (Option Value)} {xs : List V} (l : K.lookup a = some ⟨oc, od, d, sl⟩) (h : isTupV oc d xs = true) : SqT K H a xs := by
  unfold isTupV at h
  split at h
  · simp only [Bool.and_eq_true, beq_iff_eq, decide_eq_true_eq] at h
    obtain ⟨⟨h1, h2⟩, h3⟩ := h
    subst h1
    exact .inr ⟨_, _, _, l, rfl, rfl, Nat.le_trans h2 (by decide), vals_of_abs h3⟩
  · cases h

abbrev sCount : Stmt := top 3
abbrev sName : Stmt := top 4
def letters : Str := "abcdefghijklmnopqrstuvwxyz"
def nameOk (z : Str) : Bool := if 1 ≤ z.length ∧ z.length ≤ 8 then z.cps.toList.all (fun c => decide (c ∈ letters.cps.toList)) else false
def isName : V → Bool
  | .str z => nameOk z
  | _ => false
def isCount : V → Bool
  | .int i => decide (0 ≤ i)
  | _ => false
structure MTxt (K : PySem.W.Frag) (mg : Str → Option Value) : Prop where
  isi : mg "isinstance" = none
  int : mg "int" = none
  bool : mg "bool" = none
  str : mg "str" = none
  tup : mg "tuple" = none
  len : mg "len" = none
  all : mg "all" = none
  letters : ∃ t, mg "LETTERS" = some (.str letters t)
  longest : ∃ t, mg "LONGEST_NAME" = some (.int 8 t)

def spCount : Sp := fun vs H Q _ => ∃ (v : V) (n : String), vs = [v] ∧ Kd H v n ∧ Q (.bl (isCount v)) H
def spName : Sp := fun vs H Q _ => ∃ (v : V) (n : String), vs = [v] ∧ Kd H v n ∧ ∀ H', Same H H' → Q (.bl (isName v)) H'

section
variable {P : Program} {w : World} {K : PySem.W.Frag} {mg : Str → Option Value} {base : Heap}
theorem scCount : FnScope ["value"] ["value"] (defScope sCount) := ⟨rfl, rfl, rfl, by decide +kernel, rfl, by decide +kernel, by decide +kernel⟩
theorem ok_count {f : Addr} {fd : FuncData} (F : Fun K "is_count" "is_count" sCount f fd) (T : MTxt K mg) : FnOk P w K mg base CX0 1 f fd ["value"] spCount := by
  refine F.ok scCount (fun vs H Q E h => ?_) (fun cdv A outer s H vs Q E hr h => ?_)
  · obtain ⟨v, n, rfl, _⟩ := h
    rfl
  · obtain ⟨v, n, rfl, hk, k⟩ := h
    refine ⟨_, pss_one (ps_ret (pe_and (pe_callB call_isi (by rfl) T.isi (by decide +kernel) (pa_cons (pv 0) (pa_cons (pe_bltn (v := .ty "int") (by rfl) T.int (by decide +kernel) rfl) pa_nil)))
      (pe_and (pe_not (pe_callB call_isi (by rfl) T.isi (by decide +kernel) (pa_cons (pv 0) (pa_cons (pe_bltn (v := .ty "bool") (by rfl) T.bool (by decide +kernel) rfl) pa_nil)))) (pe_one (pe_cmpR op_ge (pv 0) pe_int (nomark _)))))), ?_⟩
    have ty : TyX K H v (.type n) := hk.ty
    cases hk with
    | int i => exact ⟨_, rfl, _, _, _, _, true, rfl, .ty _, ty, kit_ty (by decide +kernel), _, rfl, iteT ⟨_, rfl, _, _, _, _, false, rfl, .ty _, ty, kit_ty (by decide +kernel), _, rfl, _, rfl, iteT ⟨_, rfl, _, _, rfl, rfl, k⟩⟩⟩
    | bl b => exact ⟨_, rfl, _, _, _, _, true, rfl, .ty _, ty, kit_ty (by decide +kernel), _, rfl, iteT ⟨_, rfl, _, _, _, _, true, rfl, .ty _, ty, kit_ty (by decide +kernel), _, rfl, _, rfl, iteF k⟩⟩
    | non => exact ⟨_, rfl, _, _, _, _, false, rfl, .ty _, ty, kit_ty (by decide +kernel), _, rfl, iteF k⟩
    | str z hz => exact ⟨_, rfl, _, _, _, _, false, rfl, .ty _, ty, kit_ty (by decide +kernel), _, rfl, iteF k⟩
    | lst e => exact ⟨_, rfl, _, _, _, _, false, rfl, .ty _, ty, kit_ty (by decide +kernel), _, rfl, iteF k⟩
    | tup e => exact ⟨_, rfl, _, _, _, _, false, rfl, .ty _, ty, kit_ty (by decide +kernel), _, rfl, iteF k⟩
    | dK e => exact ⟨_, rfl, _, _, _, _, false, rfl, .ty _, ty, kit_ty (by decide +kernel), _, rfl, iteF k⟩

theorem scName : FnScope ["value", "letter"] ["value"] (defScope sName) := ⟨rfl, rfl, rfl, by decide +kernel, rfl, by decide +kernel, by decide +kernel⟩
theorem ok_name {f : Addr} {fd : FuncData} (F : Fun K "is_name" "is_name" sName f fd) (T : MTxt K mg) : FnOk P w K mg base CX0 1 f fd ["value"] spName := by
  refine F.ok scName (fun vs H Q E h => ?_) (fun cdv A outer s H vs Q E hr h => ?_)
  · obtain ⟨v, n, rfl, _⟩ := h
    rfl
  · obtain ⟨v, n, rfl, hk, k⟩ := h
    obtain ⟨tl, hL⟩ := T.letters
    obtain ⟨tg, hG⟩ := T.longest
    refine ⟨_, pss_cons (ps_if (PW.pt (pw_or (pt_not (pt_val (pe_callB call_isi (by rfl) T.isi (by decide +kernel) (pa_cons (pv 0) (pa_cons (pe_bltn (v := .ty "str") (by rfl) T.str (by decide +kernel) rfl) pa_nil)))))
        (pw_or1 (pt_not (pt_chain op_le op_le pe_int (pe_callB call_len_str (by rfl) T.len PySem.boot_len (pa_cons (pv 0) pa_nil)) (pe_glob (v := .int 8) rfl hG ⟨_, rfl⟩))))))
        (pss_one (ps_ret pe_bl)) pss_nil)
      (pss_one (ps_ret (pe_callB (cr_all rfl) (by rfl) T.all (by decide +kernel) (pa_cons (pe_lc (own := [("letter", 1)]) (g := gName 1) (by rfl) scName.nd (pi_str (pv 0)) (blkOk_by (own := [("letter", 1)]) (N := ["value", "letter"]) (sc := defScope sName) (by decide +kernel))
        (fun _ _ _ _ _ => pg_name (i := 1) scName.nd rfl (Or.inl rfl)) (fun _ _ _ _ _ => pts_nil)
        (fun _ _ _ _ _ => pe_cmpR op_in_sign (pv 1) (pe_glob (v := .str letters) rfl hL ⟨_, rfl⟩) (by rfl))) pa_nil)))), ?_⟩
    have ty : TyX K H v (.type n) := hk.ty
    cases hk with
    | str z hz =>
      refine ⟨_, rfl, _, _, _, _, true, rfl, .ty _, ty, kit_ty (by decide +kernel), _, rfl, ?_⟩
      refine iteF ⟨_, rfl, _, rfl, Nat.le_trans hz (by decide), _, _, rfl, rfl, _, rfl, ite2 (fun h1 => ?_) (fun h1 => ?_)⟩
      · refine ⟨_, _, rfl, rfl, _, rfl, ?_⟩
        have g1 : 1 ≤ z.length := by
          have := of_decide_eq_true h1
          omega
        refine ite2 (fun h2 => ?_) (fun h2 => ?_)
        · have g2 : ¬ z.length ≤ 8 := fun q => by
            rw [decide_eq_true (show ((z.length : Nat) : Int) ≤ 8 by omega)] at h2
            cases h2
          have e : isName (.str z) = false := by
            show nameOk z = false
            unfold nameOk
            rw [if_neg (fun q => g2 q.2)]
          rw [e] at k
          exact k _ (Same.refl _)
        · have g2 : z.length ≤ 8 := by
            by_cases q : z.length ≤ 8
            · exact q
            · rw [decide_eq_false (show ¬ ((z.length : Nat) : Int) ≤ 8 by omega)] at h2
              exact absurd rfl h2
          refine ⟨_, rfl, _, rfl, fun D hD => lc_it walk_str (fun i H' => H' = upd H D (.lst (((z.cps.toList.take i).map fun c => decide (c ∈ letters.cps.toList)).map V.bl)))
            rfl (fun _ _ _ _ => True.intro) ?_ ?_⟩
          · rintro i x H' H'' hi rfl ⟨rfl, c, hc, rfl⟩
            refine ⟨rfl, _, rfl, c, letters, rfl, rfl, _, upd_same, ?_, ?_⟩
            · rw [List.length_map, List.length_map, List.length_take]
              exact Nat.lt_of_le_of_lt (Nat.le_trans (Nat.min_le_right _ _) (show z.cps.toList.length ≤ 1000 from hz)) (by decide)
            · have hc2 : z.cps.toList[i]? = some c := by simpa using hc
              rw [upd_upd, List.take_add_one, hc2, List.map_append, List.map_append]
              rfl
          · rintro H' rfl
            refine ⟨_, _, rfl, .inl (.inl upd_same), ?_⟩
            have e : isName (.str z) = (((z.cps.toList.take z.cps.size).map fun c => decide (c ∈ letters.cps.toList)).all id) := by
              show nameOk z = _
              unfold nameOk
              rw [if_pos ⟨g1, g2⟩, List.take_of_length_le (by simp), List.all_map]
              rfl
            rw [← e]
            exact k _ (Same.new hD)
      · have g1 : ¬ 1 ≤ z.length := fun q => h1 (decide_eq_true (by omega))
        have e : isName (.str z) = false := by
          show nameOk z = false
          unfold nameOk
          rw [if_neg (fun q => g1 q.1)]
        rw [e] at k
        exact ⟨_, rfl, iteT (k _ (Same.refl _))⟩
    | int i => exact ⟨_, rfl, _, _, _, _, false, rfl, .ty _, ty, kit_ty (by decide +kernel), _, rfl, iteT (iteT (k _ (Same.refl _)))⟩
    | bl b => exact ⟨_, rfl, _, _, _, _, false, rfl, .ty _, ty, kit_ty (by decide +kernel), _, rfl, iteT (iteT (k _ (Same.refl _)))⟩
    | non => exact ⟨_, rfl, _, _, _, _, false, rfl, .ty _, ty, kit_ty (by decide +kernel), _, rfl, iteT (iteT (k _ (Same.refl _)))⟩
    | lst e => exact ⟨_, rfl, _, _, _, _, false, rfl, .ty _, ty, kit_ty (by decide +kernel), _, rfl, iteT (iteT (k _ (Same.refl _)))⟩
    | tup e => exact ⟨_, rfl, _, _, _, _, false, rfl, .ty _, ty, kit_ty (by decide +kernel), _, rfl, iteT (iteT (k _ (Same.refl _)))⟩
    | dK e => exact ⟨_, rfl, _, _, _, _, false, rfl, .ty _, ty, kit_ty (by decide +kernel), _, rfl, iteT (iteT (k _ (Same.refl _)))⟩


end
abbrev sListing : Stmt := top 6
/-! ### list or tuple -/
section
variable {X : Cx}
def iEither (t1 t2 : TI) : TI := fun σ H R => t1 σ H R ∨ t2 σ H R
theorem pi_either {tg e : Expr} {t1 t2 : TI} (h1 : PI X tg e t1) (h2 : PI X tg e t2) : PI X tg e (iEither t1 t2) :=
  ⟨fun pins s σ H R I h => h.elim (h1.run pins s σ H R I) (h2.run pins s σ H R I)⟩
end
/-- a list (tracked) or a tuple of these -/
inductive LsV (K : PySem.W.Frag) (H : Hp) : V → List V → Prop where
  | lst {a : Addr} {xs : List V} (e : H a = some (.lst xs)) : LsV K H (.ref a) xs
  | tup {a : Addr} {xs : List V} (e : SqT K H a xs) : LsV K H (.ref a) xs
theorem LsV.same {K : PySem.W.Frag} {H H' : Hp} {v : V} {xs : List V} (h : LsV K H v xs) (s : Same H H') : LsV K H' v xs := by
  cases h with
  | lst e => exact .lst (s _ _ e)
  | tup e => exact .tup (s.seqT e)
theorem tyT {K : PySem.W.Frag} {H : Hp} {a : Addr} {xs : List V} (h : SqT K H a xs) : TyX K H (.ref a) (.type "tuple") := by
  rcases h with (h | ⟨o, h⟩) | ⟨o, its, n, h, c, _⟩
  · exact .base (.tup h)
  · exact .fTuple h
  · exact .kTuple h c
theorem LsV.seq {K : PySem.W.Frag} {H : Hp} {v : V} {xs : List V} (h : LsV K H v xs) : ∃ a, v = .ref a ∧ (SqL K H a xs ∨ SqT K H a xs) := by
  cases h with
  | lst e => exact ⟨_, rfl, .inl (.inl (.inl e))⟩
  | tup e => exact ⟨_, rfl, .inr e⟩
/-- a thing of no kind of listing, or a listing -/
inductive LsQ (K : PySem.W.Frag) (H : Hp) : V → Option (List V) → Prop where
  | no {v : V} {n : String} (k : Kd H v n) (h : n ≠ "list" ∧ n ≠ "tuple") : LsQ K H v none
  | yes {v : V} {xs : List V} (h : LsV K H v xs) : LsQ K H v (some xs)
theorem LsQ.same {K : PySem.W.Frag} {H H' : Hp} {v : V} {o : Option (List V)} (h : LsQ K H v o) (s : Same H H') : LsQ K H' v o := by
  cases h with
  | no k e => exact .no (k.same s) e
  | yes h => exact .yes (h.same s)
def spListing (K : PySem.W.Frag) : Sp := fun vs H Q _ => ∃ (v : V) (o : Option (List V)), vs = [v] ∧ LsQ K H v o ∧ ∀ H', Same H H' → Q (.bl o.isSome) H'
section
variable {P : Program} {w : World} {K : PySem.W.Frag} {mg : Str → Option Value} {base : Heap}
theorem scListing : FnScope ["value"] ["value"] (defScope sListing) := ⟨rfl, rfl, rfl, by decide +kernel, rfl, by decide +kernel, by decide +kernel⟩
structure LTxt (mg : Str → Option Value) : Prop where
  list : mg "list" = none
  set : mg "set" = none
theorem ok_listing {f : Addr} {fd : FuncData} (F : Fun K "is_listing" "is_listing" sListing f fd) (T : MTxt K mg) (TL : LTxt mg) : FnOk P w K mg base CX0 1 f fd ["value"] (spListing K) := by
  refine F.ok scListing (fun vs H Q E h => ?_) (fun cdv A outer s H vs Q E hr h => ?_)
  · obtain ⟨v, o, rfl, _⟩ := h
    rfl
  · obtain ⟨v, o, rfl, hk, k⟩ := h
    refine ⟨_, pss_one (ps_ret (pe_callB (id := "isinstance") (r := rIsiT K) call_isiT (by rfl) T.isi (by decide +kernel) (pa_cons (pv 0) (pa_cons (pe_tup (pa_cons (pe_bltn (v := .ty "list") (by rfl) TL.list (by decide +kernel) rfl)
      (pa_cons (pe_bltn (v := .ty "tuple") (by rfl) T.tup (by decide +kernel) rfl) pa_nil))) pa_nil)))), ?_⟩
    refine ⟨v, rfl, (by show 2 ≤ sizeLine; decide), fun p hp => ⟨v, p, [.ty "list", .ty "tuple"], ?_⟩⟩
    have s1 : Same H (upd H p (.tup [.ty "list", .ty "tuple"])) := Same.new hp
    have hk1 := hk.same s1 (K := K)
    have cl : Paired ClsV [.ty "list", .ty "tuple"] [.type "list", .type "tuple"] := .cons (.ty _) (.cons (.ty _) .nil)
    cases hk1 with
    | yes h =>
      cases h with
      | lst e => exact ⟨_, _, true, rfl, upd_same, cl, (Kd.lst e).ty, kitAny_cons (b := true) (kit_ty (by decide +kernel)) (fun q => nomatch q) (fun _ => rfl), k _ s1⟩
      | tup e => exact ⟨_, _, true, rfl, upd_same, cl, tyT e, kitAny_cons (b := false) (kit_ty (by decide +kernel)) (fun _ => kitAny_cons (b := true) (kit_ty (by decide +kernel)) (fun q => nomatch q) (fun _ => rfl)) (fun q => nomatch q), k _ s1⟩
    | no kd ne =>
      refine ⟨_, _, false, rfl, upd_same, cl, kd.ty, kitAny_cons (b := false) (kit_ty ?_) (fun _ => kitAny_cons (b := false) (kit_ty ?_) (fun _ => kitAny_nil) (fun q => nomatch q)) (fun q => nomatch q), k _ s1⟩
      · cases kd <;> first | decide +kernel | exact absurd rfl ne.1 | exact absurd rfl ne.2
      · cases kd <;> first | decide +kernel | exact absurd rfl ne.1 | exact absurd rfl ne.2
end

/-! ### == and != by an own __eq__ -/
section
variable {prog : Program} {w : World} {A : Around} {E : Value → Shared → Prop} {s : Shared} {K : PySem.W.Frag} {x C f : Addr} {ox : Obj} {od : Option Obj} {name : Str} {y : Addr}
/-- x.name(..), the name's def a built-in slot -/
theorem ifBound_B {M : Model} {B : String} {id : String} {args : List Value} {Q : Option Value → Shared → Prop} (X : K.In s.heap) (I : PySem.W.InstAt s.heap x ox C od) (hs : PySem.W.findIn K (.ref C) name = some (some (.builtin id))) (S : Slot B name id)
    (h : wpAny M A (call (.builtin id) (.ref x :: args)) (fun v => Q (some v)) E s) : wpAny M A (callSpecialIfBound? (.ref x) name args) Q E s := by
  simp only [callSpecialIfBound?, bindSpecialIfBound?]
  refine wpAny_holding (wpAny_bind (wpAny_bind (wpAny_bind (I.type.here ((PySem.W.looks_findIn X hs).here ?_)))))
  simp only [S.bind]
  refine wpAny_bind (wpAny_askSetting (wpAny_ite ?_))
  have fin : wpAny M A (call (.builtin id) ([.ref x] ++ args) >>= fun v => pure (some v)) Q E s :=
    wpAny_bind (wpAny_mono h (fun v s' h' => wpAny_pure h') fun _ _ h' => h')
  split
  · exact wpAny_bind (wpAny_pure (wpAny_pure fin))
  · exact wpAny_tryCatch (wpAny_bind (wpAny_pure (wpAny_pure fin)))
theorem objNe_K {Q : Fin → Shared → Prop} (hu : A.units < cLine) (X : K.In s.heap) (I : PySem.W.InstAt s.heap x ox C od) (hs : PySem.W.findIn K (.ref C) "__eq__" = some (some (.ref f))) (hf : PySem.W.isFn K (.ref f) = true)
    (hcall : wpAny (model prog w) A (call (.ref f) [.ref x, .ref y]) (fun v s' => ∃ b, v = .bool b ∧ Q (.done (.ret (.bool (!b)))) s') E s) :
    wpAny (model prog w) A (Builtin.«object.__ne__» ⟨[.ref x, .ref y], []⟩) Q E s := by
  unfold Builtin.«object.__ne__»
  repeat (first
    | with_reducible refine wpAny_cRoomFor hu ?_
    | (refine wpAny_bind (m := callSpecialIfBound? (.ref x) (Str.ofString "__eq__") [.ref y])
        (PySem.W.ifBound_K X I hs hf (wpAny_mono hcall (fun r s' hr => by
          obtain ⟨b, rfl, hq⟩ := hr
          repeat (first | exact hq | exact wpAny_pure hq | exact wpAny_truthy_bool hq | (refine wpAny_bind (m := truthy (.bool _)) (wpAny_truthy_bool ?_)) | wp_step)) fun _ _ e => e)))
    | wp_step)
/-- the class, as != asks of it -/
structure NeC (K : PySem.W.Frag) (C : Addr) : Prop where
  ne : PySem.W.findIn K (.ref C) "__ne__" = some (some (.builtin "object.__ne__"))
  cls : ∃ nm q N bs hdct sn sub ab col dd k0 k1 k2 k3 k5 newId, K.lookup C = some (excClassObj nm q C N bs [.type "object"] hdct sn sub ab col dd k0 k1 k2 k3 k5 newId)
theorem richNe_K {oy : Obj} {Q : Value → Shared → Prop} (hu : A.units + 1 < cLine) (X : K.In s.heap) (T : NeC K C) (I : PySem.W.InstAt s.heap x ox C od) (hy : s.heap.get? y = some oy) (hyc : oy.cls = .ref C)
    (hs : PySem.W.findIn K (.ref C) "__eq__" = some (some (.ref f))) (hf : PySem.W.isFn K (.ref f) = true)
    (hcall : wpAny (model prog w) A.in1 (call (.ref f) [.ref x, .ref y]) (fun v s' => ∃ b, v = .bool b ∧ Q (.bool (!b)) s') E s) :
    wpAny (model prog w) A (richCompare .NotEq (.ref x) (.ref y)) Q E s := by
  obtain ⟨nm, q, N, bs, hdct, sn, sub, ab, col, dd, k0, k1, k2, k3, k5, newId, hC⟩ := T.cls
  have hx := I.at_
  have hc := I.cls
  have one : wpAny (model prog w) A (tryCompare (.ref x) "__ne__" (.ref y)) (fun r s' => ∃ v, r = some v ∧ Q v s') E s := by
    simp only [tryCompare]
    refine wpAny_bind (ifBound_B X I T.ne PySem.F.cmp_object.ne (wpAny_call (codeAny_call_builtin PySem.F.cmp_object.ne.plain PySem.F.cmpEntry_ne
      (wpAny_check_slot_inst (h := s.heap) (g := s.gens) (d := s.drawn) (t := s.toks) (os := s.os) PySem.F.cmpKind_ne PySem.F.cmpSplit_ne (PySem.F.cmpArgs_ne _ _) PySem.F.cmp_object.hasObject hx hc (X _ _ hC)
        (objNe_K (A := A.in1) hu X I hs hf (wpAny_mono hcall (fun v s' hv => ?_) fun _ _ e => e))))))
    obtain ⟨b, rfl, hq⟩ := hv
    first | exact ⟨b, rfl, _, rfl, hq⟩ | exact ⟨b, rfl, wpAny_pure ⟨_, rfl, hq⟩⟩ | exact ⟨b, rfl, wpAny_pure (wpAny_pure ⟨_, rfl, hq⟩)⟩
  unfold richCompare
  simp only [oneThing_ref]
  refine wpAny_holding ?_
  refine wpAny_bind (wpAny_cRoomFor (Nat.lt_of_succ_lt hu) ?_)
  rw [cmpInfo_NotEq]
  dsimp only
  refine wpAny_bind (wpAny_typeOf_ref hx ?_)
  rw [hc]
  refine wpAny_bind (wpAny_typeOf_ref hy ?_)
  rw [hyc]
  rw [show (Value.ref C != Value.ref C) = false from by simp]
  simp only [Bool.false_eq_true, if_false]
  refine wpAny_bind (wpAny_pure ?_)
  simp only [Bool.false_eq_true, if_false]
  refine wpAny_bind (wpAny_mono one (fun r s' hv => ?_) fun _ _ e => e)
  obtain ⟨b, rfl, hq⟩ := hv
  first | exact wpAny_pure hq | exact wpAny_pure (wpAny_pure hq)
end
/-- a value's kind, as == asks: an instance of the class, a text, a tuple -/
inductive EqR (H : Hp) (C : Addr) : V → Prop where
  | ins {b dy : Addr} {gs : List (Str × V)} (e : H b = some (.ins C dy gs)) : EqR H C (.ref b)
  | str (z : Str) : EqR H C (.str z)
  | tup {b : Addr} {xs : List V} (e : H b = some (.tup xs)) : EqR H C (.ref b)
/-- the class, as == asks of it -/
structure EqC (K : PySem.W.Frag) (C f : Addr) : Prop where
  eq : PySem.W.findIn K (.ref C) "__eq__" = some (some (.ref f))
  fn : PySem.W.isFn K (.ref f) = true
  n1 : PySem.W.notFirst K C (.ref C) = true
  n2 : PySem.W.notFirst K C (.type "str") = true
  n3 : PySem.W.notFirst K C (.type "tuple") = true
def rEqO (C : Addr) (sp : Sp) (E : XK) : R2 := fun x y H Q => ∃ a dx fs, x = .ref a ∧ H a = some (.ins C dx fs) ∧ EqR H C y ∧ sp [x, y] H Q E
def rNeO (C : Addr) (sp : Sp) (E : XK) : R2 := fun x y H Q => ∃ a dx fs b dy gs, x = .ref a ∧ y = .ref b ∧ H a = some (.ins C dx fs) ∧ H b = some (.ins C dy gs) ∧ sp [x, y] H (fun z H' => ∃ k, z = .bl k ∧ Q (.bl (!k)) H') E
section
variable {X : Cx} {CX : CXT} {n : Nat} {f C : Addr} {fd : FuncData} {ps : List Str} {sp : Sp} {E : XK}
theorem op_eqO (F : FnOk X.prog X.w X.K X.mg X.base CX n f fd ps sp) (T : EqC X.K C f) (hb : Binds X.K fd ps []) (hr : Room n X.A) (hx : Passes CX X E) : OpR X (compareOp .Eq) (rEqO C sp E) := by
  intro pins s σ H x y v u Q I rx ry h
  obtain ⟨a, dx, fs, rfl, ha, hy, hsp⟩ := h
  cases rx
  obtain ⟨mA, J, _⟩ := ins_get I.hok ha
  obtain ⟨od, J, _⟩ := J.look
  obtain ⟨m, hF⟩ := I.fr
  have hl := F.len _ _ _ _ hsp
  have run : wpAny (model X.prog X.w) X.A (call (.ref f) [.ref a, u]) (PySem.W.CmpBack (EP X pins σ Q)) X.xe s := by
    have r2 : Vals [V.ref a, y] [Value.ref a, u] := .cons rfl (.cons ry .nil)
    refine wpAny_call (codeAny_mono (F.run X.A X.stack s H ⟨[.ref a, u], []⟩ [.ref a, u] [.ref a, y] Q E hr I.env0 (by
      have := hb s [.ref a, u] I.kIn (by simpa using hl)
      simpa using this) r2 hsp) fun r s' hq => ?_)
    cases r with
    | error e => exact hx pins σ H s e s' I hq
    | ok fl =>
      cases fl with
      | ret w =>
        obtain ⟨z, H', I', rz, qz⟩ := I.after hq
        exact SlX.cmpback rz ⟨z, H', I', rz, qz⟩
      | next => exact False.elim hq
      | brk => exact False.elim hq
      | cont => exact False.elim hq
  show wpAny (model X.prog X.w) X.A (richCompare .Eq (.ref a) u) (EP X pins σ Q) X.xe s
  cases hy with
  | ins e =>
    cases ry
    obtain ⟨mB, J', _⟩ := ins_get I.hok e
    obtain ⟨od', J', _⟩ := J'.look
    exact PySem.W.cmp_K (op := .Eq) (tb := .ref C) hr.units0 hF I.ok.mod.kin J J'.type T.n1 T.eq T.fn run
  | str z =>
    obtain ⟨t, rfl⟩ := ry
    exact PySem.W.cmp_K (op := .Eq) (tb := .type "str") hr.units0 hF I.ok.mod.kin J (PySem.W.kitx_str.ty _ _ I.kIn True.intro) T.n2 T.eq T.fn run
  | tup e =>
    cases ry
    obtain ⟨its, r, ⟨o, ho, hc, n, hd⟩, hs⟩ := I.tuple (X := X) (.inl (.inl e))
    exact PySem.W.cmp_K (op := .Eq) (tb := .type "tuple") hr.units0 hF I.ok.mod.kin J (PySem.W.kitx_tuple.ty _ _ I.kIn ⟨_, ho, hc⟩) T.n3 T.eq T.fn run
theorem op_neO (F : FnOk X.prog X.w X.K X.mg X.base CX n f fd ps sp) (T : EqC X.K C f) (N : NeC X.K C) (hb : Binds X.K fd ps []) (hr : Room (n + 1) X.A) (hx : Passes CX X E) : OpR X (compareOp .NotEq) (rNeO C sp E) := by
  intro pins s σ H x y v u Q I rx ry h
  obtain ⟨a, dx, fs, b, dy, gs, rfl, rfl, ha, hbb, hsp⟩ := h
  cases rx
  cases ry
  obtain ⟨mA, J, _⟩ := ins_get I.hok ha
  obtain ⟨od, J, _⟩ := J.look
  obtain ⟨mB, J', _⟩ := ins_get I.hok hbb
  obtain ⟨od', J', _⟩ := J'.look
  have hl := F.len _ _ _ _ hsp
  show wpAny (model X.prog X.w) X.A (richCompare .NotEq (.ref a) (.ref b)) (EP X pins σ Q) X.xe s
  refine richNe_K (by have := hr.un; omega) I.kIn N J J'.at_ J'.cls T.eq T.fn ?_
  have r2 : Vals [V.ref a, V.ref b] [Value.ref a, Value.ref b] := .cons rfl (.cons rfl .nil)
  refine wpAny_call (codeAny_mono (F.run X.A.in1 X.stack s H ⟨[.ref a, .ref b], []⟩ [.ref a, .ref b] [.ref a, .ref b] _ E hr.in1 I.env0.in1 (by
    have := hb s [.ref a, .ref b] I.kIn (by simpa using hl)
    simpa using this) r2 hsp) fun r s' hq => ?_)
  cases r with
  | error e => exact hx pins σ H s e s' I hq
  | ok fl =>
    cases fl with
    | ret w =>
      obtain ⟨z, H', I', rz, k, ez, qz⟩ := I.after hq
      subst ez
      cases rz
      exact ⟨k, rfl, .bl (!k), H', I', rfl, qz⟩
    | next => exact False.elim hq
    | brk => exact False.elim hq
    | cont => exact False.elim hq
end
/-! ### len, item reading and `in` by own methods -/
section
variable {X : Cx} {CX : CXT} {n : Nat} {f C : Addr} {fd : FuncData} {ps : List Str} {sp : Sp} {E : XK} {pins : List (Addr × Obj)} {s : Shared} {σ : L2.St} {H : Hp} {xs : List V} {us : List Value} {Q : VK} {R : Value → Shared → Prop}
theorem run_at0 (F : FnOk X.prog X.w X.K X.mg X.base CX n f fd ps sp) (hb : Binds X.K fd ps []) (hr : Room n X.A) (hx : Passes CX X E) (I : Inv X pins σ H s) (r : Vals xs us) (h : sp xs H Q E)
    (k : ∀ w s' z H', Inv X pins σ H' s' → RelV z w → Q z H' → R w s') : wpAny (model X.prog X.w) X.A (call (.ref f) us) R X.xe s := by
  have hl := F.len _ _ _ _ h
  have hu := r.length
  refine wpAny_call (codeAny_mono (F.run X.A X.stack s H ⟨us, []⟩ us xs Q E hr I.env0 (by
      have := hb s us I.kIn (by first | omega | (simp; omega))
      simpa using this) r h) fun r' s' hq => ?_)
  cases r' with
  | error e => exact hx pins σ H s e s' I hq
  | ok fl =>
    cases fl with
    | ret w =>
      obtain ⟨z, H', I', rz, qz⟩ := I.after hq
      exact k w s' z H' I' rz qz
    | next => exact False.elim hq
    | brk => exact False.elim hq
    | cont => exact False.elim hq
theorem run_in1 (F : FnOk X.prog X.w X.K X.mg X.base CX n f fd ps sp) (hb : Binds X.K fd ps []) (hr : Room (n + 1) X.A) (hx : Passes CX X E) (I : Inv X pins σ H s) (r : Vals xs us) (h : sp xs H Q E)
    (k : ∀ w s' z H', Inv X pins σ H' s' → RelV z w → Q z H' → R w s') : wpAny (model X.prog X.w) X.A.in1 (call (.ref f) us) R X.xe s := by
  have hl := F.len _ _ _ _ h
  have hu := r.length
  refine wpAny_call (codeAny_mono (F.run X.A.in1 X.stack s H ⟨us, []⟩ us xs Q E hr.in1 I.env0.in1 (by
      have := hb s us I.kIn (by first | omega | (simp; omega))
      simpa using this) r h) fun r' s' hq => ?_)
  cases r' with
  | error e => exact hx pins σ H s e s' I hq
  | ok fl =>
    cases fl with
    | ret w =>
      obtain ⟨z, H', I', rz, qz⟩ := I.after hq
      exact k w s' z H' I' rz qz
    | next => exact False.elim hq
    | brk => exact False.elim hq
    | cont => exact False.elim hq
/-- len(o) -/
def rLenO (C : Addr) (sp : Sp) (E : XK) : List V → Hp → VK → Prop := fun xs H Q => ∃ x dx fs, xs = [.ref x] ∧ H x = some (.ins C dx fs) ∧ sp [.ref x] H (fun z H' => ∃ k : Int, z = .int k ∧ 0 ≤ k ∧ k < 2 ^ 63 ∧ Q (.int k) H') E
theorem call_lenO (F : FnOk X.prog X.w X.K X.mg X.base CX n f fd ps sp) (hs : PySem.W.findIn X.K (.ref C) "__len__" = some (some (.ref f))) (hf : PySem.W.isFn X.K (.ref f) = true) (hb : Binds X.K fd ps []) (hr : Room (n + 1) X.A) (hx : Passes CX X E) :
    CallR X (.builtin "len") (rLenO C sp E) := by
  intro pins s σ H xs us Q I r h
  obtain ⟨x, dx, fs, rfl, hX, hsp⟩ := h
  obtain ⟨u, rfl, ru⟩ := vals1 r
  cases ru
  obtain ⟨mA, J, _⟩ := ins_get I.hok hX
  obtain ⟨od, J, _⟩ := J.look
  obtain ⟨m, hF⟩ := I.fr
  refine PySem.W.len_K hF I.ok.mod.kin J hs hf (run_in1 F hb hr hx I (.cons (show RelV (V.ref x) (Value.ref x) from rfl) .nil) hsp fun w s' z H' I' rz q => ?_)
  obtain ⟨k, rfl, h0, h1, q⟩ := q
  obtain ⟨t, rfl⟩ := rz
  exact ⟨⟨h0, h1⟩, .int k, H', I'.tok _, ⟨_, rfl⟩, q⟩
/-- o[i] -/
def rIxO (C : Addr) (sp : Sp) (E : XK) : R2 := fun x y H Q => ∃ a dx fs, x = .ref a ∧ H a = some (.ins C dx fs) ∧ sp [.ref a, y] H Q E
theorem pe_ixO {a b : Expr} {ta tb : TE} {pos : Pos} (F : FnOk X.prog X.w X.K X.mg X.base CX n f fd ps sp) (hs : PySem.W.findIn X.K (.ref C) "__getitem__" = some (some (.ref f))) (hf : PySem.W.fnIn X.K f = true) (hfn : PySem.W.isFn X.K (.ref f) = true) (hb : Binds X.K fd ps [])
    (hr : Room (n + 1) X.A) (hx : Passes CX X E) (ha : PE X a ta) (hi : PE X b tb) (hsl : ∀ o i, subscripted b true (.ref o) i = runValue (.builtin "lifetime.subscript" ⟨[.ref o, i], []⟩)) : PE X (.Subscript a b pos) (tOp (rIxO C sp E) ta tb) := by
  refine ⟨fun pins s σ H Q I h => ?_⟩
  refine Subscript_ (binT ha hi I h fun v u s2 x y H2 I2 rx ry q => ?_)
  obtain ⟨p, dx, fs, rfl, hX, hsp⟩ := q
  cases rx
  obtain ⟨mA, J, _⟩ := ins_get I2.hok hX
  obtain ⟨od, J, _⟩ := J.look
  obtain ⟨m, hF⟩ := I2.fr
  exact PySem.W.sub_K hF I2.ok.mod.kin J hs hf hfn (run_in1 F hb hr hx I2 (.cons (show RelV (V.ref p) (Value.ref p) from rfl) (.cons ry .nil)) hsp fun w s' z H' I' rz q => ⟨z, H', I', rz, q⟩) (hsl _ _)
/-- v in o -/
def rInO (C : Addr) (sp : Sp) (E : XK) : R2 := fun x y H Q => ∃ a dx fs, y = .ref a ∧ H a = some (.ins C dx fs) ∧ sp [.ref a, x] H (fun z H' => ∃ k, z = .bl k ∧ Q (.bl k) H') E
theorem op_inO (F : FnOk X.prog X.w X.K X.mg X.base CX n f fd ps sp) (hs : PySem.W.findIn X.K (.ref C) "__contains__" = some (some (.ref f))) (hfn : PySem.W.isFn X.K (.ref f) = true) (hb : Binds X.K fd ps []) (hr : Room n X.A) (hx : Passes CX X E) : OpR X (compareOp .In) (rInO C sp E) := by
  intro pins s σ H x y v u Q I rx ry h
  obtain ⟨a, dx, fs, rfl, hX, hsp⟩ := h
  cases ry
  obtain ⟨mA, J, _⟩ := ins_get I.hok hX
  obtain ⟨od, J, _⟩ := J.look
  obtain ⟨m, hF⟩ := I.fr
  refine PySem.W.in_K hF I.ok.mod.kin J hs hfn (run_at0 F hb hr hx I (.cons (show RelV (V.ref a) (Value.ref a) from rfl) (.cons rx .nil)) hsp fun w s' z H' I' rz q => ?_)
  obtain ⟨k, rfl, q⟩ := q
  cases rz
  exact wpAny_truthy_bool ⟨.bl k, H', I', rfl, q⟩
end
abbrev sHInit : Stmt := inClass (top 8) 0
/-- self.f = v, self a new exception -/
def spInitE (K : PySem.W.Frag) (f : Str) : Sp := fun vs H Q _ => ∃ (a C : Addr) (v : V), vs = [.ref a, v] ∧ ExvC K C ∧ PySem.W.findIn K (.ref C) f = some none ∧ H a = some (exo a C none) ∧
  ∀ dx, H dx = none → dx ≠ a → Q .non (upd (upd H dx (exd dx [(f, v)])) a (exo a C (some dx)))
section
variable {P : Program} {w : World} {K : PySem.W.Frag} {mg : Str → Option Value} {base : Heap}
theorem scH : FnScope ["self", "value"] ["self", "value"] (defScope sHInit) := ⟨rfl, rfl, rfl, by decide +kernel, rfl, by decide +kernel, by decide +kernel⟩
theorem ok_hinit {f : Addr} {fd : FuncData} (F : Fun K "__init__" "HandleError.__init__" sHInit f fd) : FnOk P w K mg base CX0 1 f fd ["self", "value"] (spInitE K "value") := by
  refine F.ok scH (fun vs H Q E h => ?_) (fun cdv A outer s H vs Q E hr h => ?_)
  · obtain ⟨a, C, v, rfl, _⟩ := h
    rfl
  · obtain ⟨a, C, v, rfl, T, hno, ea, k⟩ := h
    refine ⟨_, pss_one (ps_stx (pv 0) (pv 1)), ?_⟩
    exact ⟨_, rfl, _, rfl, a, C, rfl, T, hno, ea, fun dx n ne => k dx n ne⟩
end

/-! ### the errors that the package raises -/
structure ErrC (K : PySem.W.Frag) (mg : Str → Option Value) (x : Str) (C fI : Addr) : Prop where
  g : mg x = some (.ref C)
  ox : OexC K C
  ev : ExvC K C
  i : PySem.W.findIn K (.ref C) "__init__" = some (some (.ref fI))
  t : PySem.W.typeIn K (.ref fI) = some (.type "function")
  no : PySem.W.findIn K (.ref C) "value" = some none
/-- an error of C with this value is let out -/
def Bad (E : XK) (H : Hp) (C : Addr) (v : V) : Prop := ∀ d H', Same H H' → H' d = some (.xd [("value", v)]) → E (.ref C) (some d) H'
theorem Bad.imp {E : XK} {H H' : Hp} {C : Addr} {v : V} (b : Bad E H C v) (s : Same H H') : Bad E H' C v := fun d H2 s2 e => b d H2 (s.trans s2) e
/-- what is asked ahead of a raise of C(v) -/
theorem raise_ok {K : PySem.W.Frag} {mg : Str → Option Value} {x : Str} {C fI : Addr} {H : Hp} {v : V} {E : XK} (e : ErrC K mg x C fI) (b : Bad E H C v) : ∀ a, H a = none →
    spInitE K "value" (.ref a :: ([v] ++ [])) (upd H a (exo a C none)) (fun u H2 => u = .non ∧ ∃ (d : Addr) (fs : List (Str × V)), H2 a = some (exo a C (some d)) ∧ H2 d = some (exd d fs) ∧ H d = none ∧ E (.ref C) (some d) (upd (del H2 a) d (.xd fs))) (fun _ _ _ => False) := by
  intro a ha
  refine ⟨a, C, v, rfl, e.ev, e.no, upd_same, fun dx n ne => ⟨rfl, dx, _, upd_same, ?_, ?_, b dx _ ?_ upd_same⟩⟩
  · rw [upd_ne ne, upd_same]
  · rw [upd_ne ne] at n
    exact n
  · intro b' u q
    have n1 : b' ≠ a := ne_of_none q ha
    have n2 : b' ≠ dx := fun z => by
      rw [z] at q
      rw [upd_ne ne, q] at n
      cases n
    rw [upd_ne n2, del_ne n1, upd_ne n1, upd_ne n2, upd_ne n1]
    exact q
def SameX (x : Addr) (H H' : Hp) : Prop := ∀ b u, b ≠ x → H b = some u → H' b = some u
/-- o.f, as a def that is called -/
def spGet (K : PySem.W.Frag) (f : Str) : Sp := fun vs H Q _ => ∃ (x C dx : Addr) (fs : List (Str × V)) (v : V), vs = [.ref x] ∧ H x = some (.ins C dx fs) ∧ Cls K C ∧ NoAttr K C f ∧ fs.lookup f = some v ∧ Q v H
theorem intlen {m : Int} (h0 : 0 ≤ m) (h1 : m < 10 ^ 40) : (Str.ofString (toString m)).length ≤ 40 ∧ m.natAbs.log2 < 1920 := by
  refine ⟨numlen h0 h1, ?_⟩
  have h2 : m.natAbs < 2 ^ 140 := by
    have e : (10 : Int) ^ 40 ≤ 2 ^ 140 := by decide
    have e2 : ((2 ^ 140 : Nat) : Int) = (2 : Int) ^ 140 := by decide
    omega
  exact Nat.lt_trans (PySem.Flt.log2_lt_of (by decide) h2) (by decide)
theorem empty_add (z : Str) : Str.empty ++ z = z := by
  cases z with
  | mk a =>
    show Str.mk (#[] ++ a) = Str.mk a
    rw [Array.empty_append]
theorem len_add (a b : Str) : (a ++ b).length = a.length + b.length := by
  cases a with
  | mk a =>
    cases b with
    | mk b =>
      show (a ++ b).size = a.size + b.size
      exact Array.size_append
/-! ### what stays; bad numbers -/
/-- all but the pool and the tables of code is as it was -/
def Mv (p q : Addr) (H H' : Hp) : Prop := ∀ b o, b ≠ p → b ≠ q → (∀ ps, o ≠ .tbl ps) → H b = some o → H' b = some o
theorem Mv.refl (p q : Addr) (H : Hp) : Mv p q H H := fun _ _ _ _ _ h => h
theorem Mv.trans {p q : Addr} {H H1 H2 : Hp} (a : Mv p q H H1) (b : Mv p q H1 H2) : Mv p q H H2 := fun c o n1 n2 n3 h => b c o n1 n2 n3 (a c o n1 n2 n3 h)
theorem Mv.same {p q : Addr} {H H1 : Hp} (a : Same H H1) : Mv p q H H1 := fun c o _ _ _ h => a c o h
theorem Mv.but {p q : Addr} {H H1 : Hp} (a : But p q H H1) : Mv p q H H1 := fun c o n1 n2 _ h => a c o n1 n2 h
theorem Mv.ext {p q : Addr} {H H1 : Hp} (a : LamX.ExtN H H1) : Mv p q H H1 := fun c o _ _ n3 h => a c o h n3
theorem PoolAt.ext {p q : Addr} {H H' : Hp} (h : PoolAt H p q) (a : LamX.ExtN H H') : PoolAt H' p q := by
  obtain ⟨ns, i, x, z, b, h1, h2, h3⟩ := h
  exact ⟨ns, i, x, z, b, a _ _ h1 (fun _ e => by cases e), a _ _ h2 (fun _ e => by cases e), h3⟩
theorem tabs_but {T : List (Addr × Str)} {p q : Addr} {H H' : Hp} (hP : PoolAt H p q) (t : LamX.Tabs T H) (b : But p q H H') : LamX.Tabs T H' := by
  obtain ⟨ns, i, x, z, y, h1, h2, _⟩ := hP
  intro r hr
  obtain ⟨ps, e1, e2, e3⟩ := t r hr
  have far : ∀ c o, H c = some o → (∀ xs, o ≠ .lst xs) → H' c = some o := fun c o e n => b c o (fun q => n _ (by rw [q, h1] at e; exact (Option.some.inj e).symm)) (fun q => n _ (by rw [q, h2] at e; exact (Option.some.inj e).symm)) e
  refine ⟨ps, far _ _ e1 (fun _ e => by cases e), e2, fun pos cv hc => ?_⟩
  obtain ⟨c, e4, e5⟩ := e3 pos cv hc
  exact ⟨c, e4, far _ _ e5 (fun _ e => by unfold LamX.CodeO at e; cases e)⟩
/-- an object beside the pool -/
structure Sf (p q : Addr) (H : Hp) (a : Addr) (o : HO) : Prop where
  e : H a = some o
  np : a ≠ p
  nq : a ≠ q
theorem Sf.same {p q : Addr} {H H' : Hp} {a : Addr} {o : HO} (h : Sf p q H a o) (s : Same H H') : Sf p q H' a o := ⟨s _ _ h.e, h.np, h.nq⟩
theorem Sf.mv {p q : Addr} {H H' : Hp} {a : Addr} {o : HO} (h : Sf p q H a o) (b : Mv p q H H') (n : ∀ ps, o ≠ .tbl ps := by intro _ z; cases z) : Sf p q H' a o := ⟨b _ _ h.np h.nq n h.e, h.np, h.nq⟩
theorem Sf.but {p q : Addr} {H H' : Hp} {a : Addr} {o : HO} (h : Sf p q H a o) (b : But p q H H') : Sf p q H' a o := ⟨b _ _ h.np h.nq h.e, h.np, h.nq⟩
theorem Sf.new {p q : Addr} {H : Hp} {a : Addr} {o : HO} (hP : PoolAt H p q) (h : H a = none) : Sf p q (upd H a o) a o := by
  obtain ⟨ns, i, x, s, b, h1, h2, _⟩ := hP
  exact ⟨upd_same, fun z => ne_of_none h1 h z.symm, fun z => ne_of_none h2 h z.symm⟩
theorem okD_strOk {d : PyData} (h : okD d = true) : PyData.strOk d.shown = true := by
  unfold okD at h
  rw [Bool.and_eq_true] at h
  exact h.2
/-- ['word', repr(..)] as data -/
theorem shaped_two {x : String} {z : Str} (h : PyData.strOk z = true) : SeqAt.shaped (.list [.str (Str.ofString x), .str z]) = true := by
  have e : PyData.canLay0 (.list [.str (Str.ofString x), .str z]) = true := by
    show ((PyData.strOk (Str.ofString x)) && (PyData.strOk z && true)) = true
    rw [strOk_of, h]
    rfl
  unfold SeqAt.shaped
  rw [e]
  rfl
theorem eqv_two (x z : Str) : PyData.eqv (.list [.str x, .str z]) (.list [.str x, .str z]) = true := by
  show ((x == x) && ((z == z) && true)) = true
  simp
theorem dp_two {K : PySem.W.Frag} {H : Hp} {a : Addr} {x z : Str} (e : H a = some (.lst [.str x, .str z])) : Dp K H (.ref a) (.list [.str x, .str z]) := .lst (.inl (.inl e)) (.cons (.str _) (.cons (.str _) .nil))
theorem same_made {C : Addr} {H : Hp} {x dx : Addr} (hx : H x = none) (hd : H dx = none) (ne : dx ≠ x) : Same H (upd (upd H dx (.own x)) x (.ins C dx [])) := fun b o e => by
  rw [upd_ne (ne_of_none e hx), upd_ne (ne_of_none e hd)]
  exact e
theorem passF {P : Program} {w : World} {X : Cx} : Passes (L2.CX P w) X (fun _ _ _ => False) := fun _ _ _ _ _ _ _ c => by
  obtain ⟨_, _, _, _, _, _, _, _, _, _, _, _, z⟩ := c
  exact z.elim
/-! ### a def whose code object is known -/
theorem fnG_okC {P : Program} {w : World} {K : PySem.W.Frag} {mg : Str → Option Value} {base : Heap} {k : Nat} {x qual : Str} {st : Stmt} {f : Addr} {oc : Value} {od an : Option Addr} {osl : Array (Option Value)} {kV doc pm cdv ct : Value} {N ps : List Str} {sp : Sp}
    (lk : K.lookup f = some ⟨oc, od, .func (PySem.W.fnOf x qual (defArgs st) (defBody st) (defScope st) .none kV doc pm an cdv ct), osl⟩) (hcd : PySem.W.codeIn K cdv qual = true) (S : FnScope N ps (defScope st))
    (len : ∀ vs H Q E, sp vs H Q E → vs.length = ps.length)
    (body : ∀ (A : Around) (outer : List Env) (s : Shared) (H : Hp) (vs : List V) (Q : VK) (E : XK), A.guards = some [] → Room k (A.deeper (PyProof.Rows.envOfC qual (defScope st) s.heap.objs.size f cdv)) → sp vs H Q E →
      ∃ t, PSs (cxOf CX0 P w K mg base N qual (defScope st) f cdv A outer s H E).nox (defBody st) t ∧ t { nx := fun _ H' => Q .non H', rt := Q } (start N vs) H) :
    FnG P w K mg base CX0 (k + 1) f (PySem.W.fnOf x qual (defArgs st) (defBody st) (defScope st) .none kV doc pm an cdv ct) ps sp := by
  constructor
  · exact len
  intro A outer s H args us vs Q E hg hr e0 hb r hsp
  have hl := len _ _ _ _ hsp
  have old : ∀ b o, base.get? b = some o → s.heap.get? b = some o := fun b o e => (e0.bs b o e).1
  have KX : K.In s.heap := e0.mod.kin.keeps old
  have kinds : ∀ y ∈ ps.zip us, (defScope st).names.lookup y.1 = some .local ∨
      ((defScope st).names.lookup y.1 = some .cell ∧ ((cellsFrom (s.heap.objs.size + 1) (defScope st).names []).lookup y.1).isSome = true) := by
    rintro ⟨n, v⟩ hy
    have q := S.par n (List.of_mem_zip hy).1
    refine q.imp id fun q => ⟨q, ?_⟩
    exact PySem.W.cellsFrom_some _ _ _ (.inl q)
  refine codeAny_call_function hr.depth (KX _ _ lk) rfl S.co S.gen rfl (PySem.W.codeRec_of KX hcd) (hb _ _ _ _ ?_)
  refine wpAny_newFunctionEnv_cells S.kind kinds fun env he s1 z => ?_
  subst he
  refine ⟨(e0.mod.nolimit.keeps old).keeps z.toInCall.keep, PySem.codeAny_func ?_⟩
  obtain ⟨t, ht, hq⟩ := body A outer s H vs Q E hg (hr.deeper _) hsp
  have I := inv_start (CX := CX0) (E := E) (cd := cdv) (f := f) S hr.hd e0 hl r z
  refine wpAny_mono (ht.nox.run [] s1 (start N vs) H _ I hq) (fun fl s' hs => ?_) fun e s' hs => hs
  cases fl with
  | ret u =>
    obtain ⟨v, σ', H', J, rv, q⟩ := hs
    exact ⟨v, H', J.os, J.bare, J.base, J.hok, rv, q⟩
  | next =>
    obtain ⟨σ', H', J, q⟩ := hs
    exact ⟨V.non, H', J.os, J.bare, J.base, J.hok, rfl, q⟩
  | brk => exact hs.choose_spec.choose_spec.2.elim
  | cont => exact hs.choose_spec.choose_spec.2.elim
/-- texts of lists of a few ints -/
theorem okW_ints {ns : List Int} (hl : ns.length ≤ 100) (h : ∀ n ∈ ns, 0 ≤ n ∧ n < 10 ^ 40) : (PyData.list (ns.map PyData.int)).showable = true ∧ (PyData.list (ns.map PyData.int)).depth ≤ 50 ∧ (PyData.list (ns.map PyData.int)).shown.length ≤ 100000 := by
  have a1 : ∀ ms : List Int, (∀ n ∈ ms, 0 ≤ n ∧ n < 10 ^ 40) → PyData.showableAll (ms.map PyData.int) = true := fun ms => by
    induction ms with
    | nil => intro _; rfl
    | cons m ms ih =>
      intro q
      have e1 : PyData.showable (.int m) = true := decide_eq_true (intlen (q m (List.mem_cons_self ..)).1 (q m (List.mem_cons_self ..)).2).2
      show (PyData.showable (.int m) && PyData.showableAll (ms.map PyData.int)) = true
      rw [e1, ih fun n hn => q n (List.mem_cons_of_mem _ hn)]
      rfl
  have a2 : ∀ ms : List Int, PyData.depthAll (ms.map PyData.int) = 0 := fun ms => by
    induction ms with
    | nil => rfl
    | cons m ms ih =>
      show max (PyData.depth (.int m)) (PyData.depthAll (ms.map PyData.int)) = 0
      rw [ih]
      rfl
  have a3 : ∀ ms : List Int, (∀ n ∈ ms, 0 ≤ n ∧ n < 10 ^ 40) → (PyData.shownAll (ms.map PyData.int)).length = ms.length ∧ ((PyData.shownAll (ms.map PyData.int)).map (·.length)).sum ≤ 40 * ms.length := fun ms => by
    induction ms with
    | nil => intro _; exact ⟨rfl, Nat.le_refl _⟩
    | cons m ms ih =>
      intro q
      obtain ⟨i1, i2⟩ := ih fun n hn => q n (List.mem_cons_of_mem _ hn)
      have l1 := (intlen (q m (List.mem_cons_self ..)).1 (q m (List.mem_cons_self ..)).2).1
      have e : PyData.shownAll ((m :: ms).map PyData.int) = Str.ofString (toString m) :: PyData.shownAll (ms.map PyData.int) := rfl
      rw [e, List.length_cons, List.map_cons, List.sum_cons, List.length_cons, i1]
      refine ⟨rfl, ?_⟩
      show (Str.ofString (toString m)).length + _ ≤ _
      omega
  refine ⟨a1 ns h, ?_, ?_⟩
  · show PyData.depthAll (ns.map PyData.int) + 1 ≤ 50
    rw [a2]
    decide
  · obtain ⟨b1, b2⟩ := a3 ns h
    have b3 := PySem.listText_len_le (PyData.shownAll (ns.map PyData.int))
    show (listText (PyData.shownAll (ns.map PyData.int))).length ≤ 100000
    rw [b1] at b3
    omega
theorem pairEq (a b c d : Int) : (if a = c then decide (b = d) else false) = PyData.eqv (.list [.int a, .int b]) (.list [.int c, .int d]) := by
  show _ = ((a == c) && ((b == d) && true))
  by_cases h : a = c
  · rw [if_pos h, h]
    by_cases g : b = d
    · rw [g]
      simp
    · simp [g]
  · rw [if_neg h]
    simp [h]
/-- an object beside the pool is stored to -/
theorem PoolAt.same' {p q a : Addr} {H : Hp} {o : HO} (h : PoolAt H p q) (f : Sf p q H a o) (o' : HO) : PoolAt (upd H a o') p q := by
  obtain ⟨ns, i, x, z, b, h1, h2, h3⟩ := h
  exact ⟨ns, i, x, z, b, by rw [upd_ne f.np.symm]; exact h1, by rw [upd_ne f.nq.symm]; exact h2, h3⟩
theorem tabs_put {T : List (Addr × Str)} {p q a : Addr} {H : Hp} {xs : List V} (t : LamX.Tabs T H) (f : Sf p q H a (.lst xs)) (o' : HO) : LamX.Tabs T (upd H a o') := by
  intro r hr
  obtain ⟨ps, e1, e2, e3⟩ := t r hr
  have far : ∀ c o, H c = some o → (∀ xs, o ≠ .lst xs) → upd H a o' c = some o := fun c o e n => by
    rw [upd_ne (fun z => n xs (by rw [z, f.e] at e; exact (Option.some.inj e).symm))]
    exact e
  refine ⟨ps, far _ _ e1 (fun _ e => by cases e), e2, fun pos cv hc => ?_⟩
  obtain ⟨c, e4, e5⟩ := e3 pos cv hc
  exact ⟨c, e4, far _ _ e5 (fun _ e => by unfold LamX.CodeO at e; cases e)⟩
theorem ifTwo {A B : Prop} {x z : Str} (h : B) : if (!PyData.eqv (.list [.str x, .str z]) (.list [.str x, .str z])) = true then A else B := by
  rw [eqv_two]
  exact h
/-! ### calls where no repr is under way -/
section
variable {X : Cx} {k : Nat} {f f2 : Addr} {fd fd2 : FuncData} {ps ps2 : List Str} {sp sp2 : Sp} {x : Str} {p pos : Pos} {e : Expr} {es : List Expr} {t : TA} {tc : TE}
theorem run_fnG {pins : List (Addr × Obj)} {σ : L2.St} {H : Hp} {s : Shared} {Q : VK} {us : List Value} {vs : List V} (F : FnG X.prog X.w X.K X.mg X.base CX0 k f fd ps sp) (hg : X.A.guards = some []) (hr : Room k X.A) (hb : Binds X.K fd ps [])
    (I : Inv X pins σ H s) (r : Vals vs us) (h : sp vs H Q E0) : wpAny (model X.prog X.w) X.A (call (.ref f) us) (EP X pins σ Q) X.xe s := by
  have hl := F.len _ _ _ _ h
  have hu := r.length
  refine wpAny_call (codeAny_mono (F.run X.A X.stack s H ⟨us, []⟩ us vs Q E0 hg hr I.env0 (by
      have := hb s us I.kIn (by first | omega | (simp; omega))
      simpa using this) r h) fun r' s' hq => ?_)
  cases r' with
  | error e => exact (pass0 : Passes CX0 X E0) pins σ H s e s' I hq
  | ok fl =>
    cases fl with
    | ret w => exact I.after hq
    | next => exact False.elim hq
    | brk => exact False.elim hq
    | cont => exact False.elim hq
theorem pe_callGd (F : FnG X.prog X.w X.K X.mg X.base CX0 k f fd ps sp) (hgd : X.A.guards = some []) (hr : Room k X.A) (hg : Gl X x) (hm : X.mg x = some (.ref f)) (hk : PySem.W.keepIn X.K (.ref f) = true) (hb : Binds X.K fd ps [])
    (ha : PA X (e :: es) t) (hdb : (x == ("__debug__" : Str)) = false := by decide) (he : starEach (e :: es) X.env = (false, eval e X.env) :: starEach es X.env := by rfl) (hpl : (backTo pos (starEach es X.env)).any (·.1) = false := by rfl) :
    PE X (.Call (.Name x p) (e :: es) [] pos) (fun σ H Q => t σ H fun vs H1 => sp vs H1 Q E0) := by
  refine ⟨fun pins s σ H Q I h => ?_⟩
  refine wpAny_Call_Name_kw (ld_glob I hg hm ?_ hdb)
  refine PySem.W.callWith_K (h₀ := X.base) I.ok.mod.kin hk (thn (ha.run pos pins s σ H _ I h) fun us s1 ⟨vs, H1, I1, r, q⟩ => ⟨I1.kIn, ?_⟩) he hpl
  exact run_fnG F hgd hr hb I1 r q
end
/-! ### steps, runs -/
abbrev sStep : Stmt := top 5
def isStep (H : Hp) : V → Bool
  | .ref a => match H a with
    | some (.tup [x, y]) => isCount x && isCount y
    | _ => false
  | _ => false
inductive StV (H : Hp) : V → Prop
  | no {v : V} {n : String} (k : Kd H v n) (h : n ≠ "tuple") : StV H v
  | tup {a : Addr} {xs : List V} (e : H a = some (.tup xs)) (l : xs.length ≤ 1000) (k : ∀ x ∈ xs, ∃ m, Kd H x m) : StV H (.ref a)
theorem StV.same {H H' : Hp} {v : V} (h : StV H v) (s : Same H H') : StV H' v := by
  cases h with
  | no k h => exact .no (k.same s) h
  | tup e l k => exact .tup (s _ _ e) l fun x hx => (k x hx).imp fun _ q => q.same s
theorem isStep_no {H : Hp} {v : V} {n : String} (k : Kd H v n) (h : n ≠ "tuple") : isStep H v = false := by
  cases k with
  | tup e => exact absurd rfl h
  | lst e => simp only [isStep, e]
  | dK e => simp only [isStep, e]
  | _ => rfl
def stepL : List V → Bool
  | [x, y] => isCount x && isCount y
  | _ => false
theorem isStep_tup {H : Hp} {a : Addr} {xs : List V} (e : H a = some (.tup xs)) : isStep H (.ref a) = stepL xs := by
  simp only [isStep, e]
  match xs with
  | [] => rfl
  | [_] => rfl
  | [_, _] => rfl
  | _ :: _ :: _ :: _ => rfl
theorem isStep_same {H H' : Hp} {v : V} (h : StV H v) (s : Same H H') : isStep H' v = isStep H v := by
  cases h with
  | no k h => rw [isStep_no k h, isStep_no (k.same s) h]
  | tup e l k => rw [isStep_tup e, isStep_tup (s _ _ e)]
def spStep : Sp := fun vs H Q _ => ∃ v, vs = [v] ∧ StV H v ∧ Q (.bl (isStep H v)) H
section
variable {P : Program} {w : World} {K : PySem.W.Frag} {mg : Str → Option Value} {base : Heap}
theorem scStep : FnScope ["value"] ["value"] (defScope sStep) := ⟨rfl, rfl, rfl, by decide +kernel, rfl, by decide +kernel, by decide +kernel⟩
theorem ok_step {f fC : Addr} {fd fdC : FuncData} (F : Fun K "is_step" "is_step" sStep f fd) (T : MTxt K mg) (FC : Fun K "is_count" "is_count" sCount fC fdC) (bC : Binds K fdC ["value"] []) (gC : mg "is_count" = some (.ref fC)) :
    FnOk P w K mg base CX0 2 f fd ["value"] spStep := by
  have GC : FnOk P w K mg base CX0 1 fC fdC ["value"] spCount := ok_count FC T
  refine F.ok scStep (fun vs H Q E h => ?_) (fun cdv A outer s H vs Q E hr h => ?_)
  · obtain ⟨v, rfl, _⟩ := h
    rfl
  · obtain ⟨v, rfl, hv, k⟩ := h
    refine ⟨_, pss_one (ps_ret (pe_and (pe_callB call_isi (by rfl) T.isi (by decide +kernel) (pa_cons (pv 0) (pa_cons (pe_bltn (v := .ty "tuple") (by rfl) T.tup (by decide +kernel) rfl) pa_nil)))
      (pe_and (pe_cmpR op_eq (pe_callB call_len_seq (by rfl) T.len PySem.boot_len (pa_cons (pv 0) pa_nil)) pe_int (nomark _))
      (pe_and (pe_call GC hr rfl gC FC.kp bC .nil pass0 (pa_cons (pe_ix ix_tup (pv 0) pe_int (fun _ _ => rfl)) pa_nil))
      (pe_one (pe_call GC hr rfl gC FC.kp bC .nil pass0 (pa_cons (pe_ix ix_tup (pv 0) pe_int (fun _ _ => rfl)) pa_nil))))))), ?_⟩
    cases hv with
    | @no _ n kd ne =>
      rw [isStep_no kd ne] at k
      have ty : TyX K H v (.type n) := kd.ty
      cases kd with
      | tup e => exact absurd rfl ne
      | _ => exact ⟨_, rfl, _, _, _, _, false, rfl, .ty _, ty, kit_ty (by decide +kernel), _, rfl, iteF k⟩
    | @tup a xs e l kx =>
      have ty : TyX K H (.ref a) (.type "tuple") := (Kd.tup e).ty
      refine ⟨_, rfl, _, _, _, _, true, rfl, .ty _, ty, kit_ty (by decide +kernel), _, rfl, iteT ⟨_, rfl, a, xs, rfl, .inr (.inl (.inl e)), rfl, _, rfl, ite2 (fun h2 => ?_) (fun h2 => ?_)⟩⟩
      · have g : xs.length = 2 := by
          have h3 := of_decide_eq_true h2
          injection h3 with h3
          omega
        obtain ⟨x, y, rfl⟩ : ∃ x y, xs = [x, y] := by
          match xs, g with
          | [x, y], _ => exact ⟨x, y, rfl⟩
        obtain ⟨m1, k1⟩ := kx x (by simp)
        obtain ⟨m2, k2⟩ := kx y (by simp)
        have e0 : isStep H (.ref a) = (isCount x && isCount y) := isStep_tup e
        rw [e0] at k
        refine ⟨_, rfl, a, [x, y], 0, x, rfl, rfl, .inl (.inl e), rfl, x, m1, rfl, k1, _, rfl, ite2 (fun h3 => ?_) (fun h3 => ?_)⟩
        · rw [h3] at k
          exact ⟨_, rfl, a, [x, y], 1, y, rfl, rfl, .inl (.inl e), rfl, y, m2, rfl, k2, k⟩
        · have h4 : isCount x = false := by
            cases q : isCount x with
            | true => exact absurd q h3
            | false => rfl
          rw [h4] at k
          exact k
      · have g : xs.length ≠ 2 := fun q => h2 (decide_eq_true (by rw [q]; rfl))
        have e0 : isStep H (.ref a) = false := by
          rw [isStep_tup e]
          match xs, g with
          | [], _ => rfl
          | [_], _ => rfl
          | [_, _], g => exact absurd rfl g
          | _ :: _ :: _ :: _, _ => rfl
        rw [e0] at k
        exact k
end
/-- what is given as a run -/
inductive LsX (H : Hp) : V → Option (List V) → Prop
  | no {v : V} {n : String} (k : Kd H v n) (h : n ≠ "list" ∧ n ≠ "tuple") : LsX H v none
  | lst {a : Addr} {xs : List V} (e : H a = some (.lst xs)) (l : xs.length ≤ 1000) (s : ∀ y ∈ xs, StV H y) : LsX H (.ref a) (some xs)
  | tup {a : Addr} {xs : List V} (e : H a = some (.tup xs)) (l : xs.length ≤ 1000) (s : ∀ y ∈ xs, StV H y) : LsX H (.ref a) (some xs)
theorem LsX.same {H H' : Hp} {v : V} {o : Option (List V)} (h : LsX H v o) (s : Same H H') : LsX H' v o := by
  cases h with
  | no k h => exact .no (k.same s) h
  | lst e l k => exact .lst (s _ _ e) l fun y hy => (k y hy).same s
  | tup e l k => exact .tup (s _ _ e) l fun y hy => (k y hy).same s
theorem LsX.lsq {K : PySem.W.Frag} {H : Hp} {v : V} {o : Option (List V)} (h : LsX H v o) : LsQ K H v o := by
  cases h with
  | no k h => exact .no k h
  | lst e l k => exact .yes (.lst e)
  | tup e l k => exact .yes (.tup (.inl (.inl e)))
theorem LsX.yes {H : Hp} {v : V} {xs : List V} (h : LsX H v (some xs)) : ∃ a, v = .ref a ∧ (H a = some (.lst xs) ∨ H a = some (.tup xs)) ∧ xs.length ≤ 1000 ∧ ∀ y ∈ xs, StV H y := by
  cases h with
  | lst e l k => exact ⟨_, rfl, .inl e, l, k⟩
  | tup e l k => exact ⟨_, rfl, .inr e, l, k⟩
def stepsOk (H : Hp) : Option (List V) → Bool
  | some xs => xs.all (isStep H)
  | none => false
theorem stepsOk_same {H H' : Hp} {v : V} {o : Option (List V)} (h : LsX H v o) (s : Same H H') : stepsOk H' o = stepsOk H o := by
  have key : ∀ xs : List V, (∀ y ∈ xs, StV H y) → xs.all (isStep H') = xs.all (isStep H) := fun xs k => by
    induction xs with
    | nil => rfl
    | cons x xs ih =>
      rw [List.all_cons, List.all_cons, isStep_same (k x (List.mem_cons_self ..)) s, ih fun y hy => k y (List.mem_cons_of_mem _ hy)]
  cases h with
  | no k h => rfl
  | lst e l k => exact key _ k
  | tup e l k => exact key _ k
def rTupX : List V → Hp → VK → Prop := fun xs H Q => ∃ a ys, xs = [.ref a] ∧ (H a = some (.lst ys) ∨ H a = some (.tup ys)) ∧ ∀ p H', Same H H' → H' p = some (.tup ys) → Q (.ref p) H'
theorem call_tupleX {X : Cx} : CallR X (.type "tuple") rTupX := by
  intro pins s σ H xs us Q I r h
  obtain ⟨a, ys, rfl, hl, k⟩ := h
  refine call_tuple_of pins s σ H _ us Q I r ⟨a, ys, rfl, ?_⟩
  rcases hl with e | e
  · exact .inl ⟨.inl (.inl e), fun l hl => k l _ (Same.new hl) upd_same⟩
  · exact .inr ⟨.inl (.inl e), k a H (Same.refl _) e⟩
/-! ### notes -/
abbrev sNtInit : Stmt := inClass (top 23) 0
abbrev sNtSet : Stmt := inClass (top 23) 1
abbrev sNtItem : Stmt := inClass (top 23) 2
abbrev sNtIn : Stmt := inClass (top 23) 4
abbrev sNtLen : Stmt := inClass (top 23) 5
abbrev sNtListed : Stmt := inClass (top 23) 6
structure NCls (K : PySem.W.Frag) (mg : Str → Option Value) (C : Addr) : Prop where
  cl : Cls K C
  n1 : NoAttr K C "_noted"
  g : mg "Notes" = some (.ref C)
structure NAt (H : Hp) (C x dx d : Addr) (kvs : List (Key × V)) : Prop where
  ins : H x = some (.ins C dx [("_noted", .ref d)])
  dk : H d = some (.dK kvs)
theorem NAt.same {H H' : Hp} {C x dx d : Addr} {kvs : List (Key × V)} (h : NAt H C x dx d kvs) (s : Same H H') : NAt H' C x dx d kvs := ⟨s _ _ h.ins, s _ _ h.dk⟩
theorem NAt.ne {H : Hp} {C x dx d : Addr} {kvs : List (Key × V)} (h : NAt H C x dx d kvs) : x ≠ d := fun q => by
  have e := h.ins
  rw [q, h.dk] at e
  cases e
def hasK (v : V) (kvs : List (Key × V)) : Bool := match v with
  | .str z => nameOk z && (valV kvs (.inr z)).isSome
  | _ => false
def spNtInit (C : Addr) : Sp := fun vs H Q _ => ∃ x dx, vs = [.ref x] ∧ H x = some (.ins C dx []) ∧ ∀ d, H d = none → Q .non (upd (upd H d (.dK [])) x (.ins C dx [("_noted", .ref d)]))
def spNtSet (C CN CS : Addr) : Sp := fun vs H Q E => ∃ (x dx d : Addr) (kvs : List (Key × V)) (v : V) (n : String) (wv : V) (oW : Option (List V)), vs = [.ref x, v, wv] ∧ NAt H C x dx d kvs ∧ Kd H v n ∧ LsX H wv oW ∧ kvs.length < 1000 ∧
  (isName v = false → Bad E H CN v) ∧ (isName v = true → stepsOk H oW = false → Bad E H CS wv) ∧
  (∀ z ws, v = .str z → isName v = true → oW = some ws → stepsOk H oW = true → ∀ H1 t, Same H H1 → H1 t = some (.tup ws) → Q .non (upd H1 d (.dK (putK kvs (.inr z) (.ref t)))))
def spNtItem (C CN : Addr) : Sp := fun vs H Q E => ∃ (x dx d : Addr) (kvs : List (Key × V)) (v : V) (n : String), vs = [.ref x, v] ∧ NAt H C x dx d kvs ∧ Kd H v n ∧ (hasK v kvs = false → Bad E H CN v) ∧
  (∀ z u, v = .str z → isName v = true → valV kvs (.inr z) = some u → ∀ H', Same H H' → Q u H')
def spNtIn (C : Addr) : Sp := fun vs H Q _ => ∃ (x dx d : Addr) (kvs : List (Key × V)) (v : V) (n : String), vs = [.ref x, v] ∧ NAt H C x dx d kvs ∧ Kd H v n ∧ ∀ H', Same H H' → Q (.bl (hasK v kvs)) H'
def spNtLen (C : Addr) : Sp := fun vs H Q _ => ∃ (x dx d : Addr) (kvs : List (Key × V)), vs = [.ref x] ∧ NAt H C x dx d kvs ∧ Q (.int (kvs.length : Nat)) H
/-- an entry, told -/
def EntAt (kvs : List (Key × V)) (H : Hp) (y : Str) (it : V) : Prop := ∃ q u, it = .ref q ∧ H q = some (.tup [.str y, u]) ∧ valV kvs (.inr y) = some u
theorem EntAt.same {kvs : List (Key × V)} {H H' : Hp} {y : Str} {it : V} (h : EntAt kvs H y it) (s : Same H H') : EntAt kvs H' y it := by
  obtain ⟨q, u, e1, e2, e3⟩ := h
  exact ⟨q, u, e1, s _ _ e2, e3⟩
theorem paired_imp {α β : Type} {F G : α → β → Prop} (i : ∀ a b, F a b → G a b) {xs : List α} {ys : List β} (h : Paired F xs ys) : Paired G xs ys := by
  induction h with
  | nil => exact .nil
  | cons a _ ih => exact .cons (i _ _ a) ih
def ToldL (kvs : List (Key × V)) (names : List Str) (W : Addr → Hp → Prop) (H : Hp) : Prop := ∀ H' t ys its, Same H H' → ys.Perm names → sortedS ys = true → H' t = some (.tup its) → Paired (EntAt kvs H') ys its → W t H'
def spNtListed (C : Addr) : Sp := fun vs H Q _ => ∃ (x dx d : Addr) (kvs : List (Key × V)) (names : List Str), vs = [.ref x] ∧ NAt H C x dx d kvs ∧ kvs.map (·.1) = names.map Sum.inr ∧ names.length < 64 ∧ ToldL kvs names (fun t H' => Q (.ref t) H') H
structure NTxt (mg : Str → Option Value) : Prop where
  sorted : mg "sorted" = none
section
variable {P : Program} {w : World} {K : PySem.W.Frag} {mg : Str → Option Value} {base : Heap}
theorem scNtInit : FnScope ["self"] ["self"] (defScope sNtInit) := ⟨rfl, rfl, rfl, by decide +kernel, rfl, by decide +kernel, by decide +kernel⟩
theorem ok_ntInit {f C : Addr} {fd : FuncData} (F : Fun K "__init__" "Notes.__init__" sNtInit f fd) (S : NCls K mg C) : FnOk P w K mg base CX0 1 f fd ["self"] (spNtInit C) := by
  refine F.ok scNtInit (fun vs H Q E h => ?_) (fun cdv A outer s H vs Q E hr h => ?_)
  · obtain ⟨x, dx, rfl, _⟩ := h
    rfl
  · obtain ⟨x, dx, rfl, hx, k⟩ := h
    refine ⟨_, pss_one (ps_fld (pv 0) pe_dnewK (by rfl)), ?_⟩
    exact fun d hd => ⟨_, rfl, x, C, dx, [], rfl, (upd_ne (ne_of_none hx hd)).trans hx, S.cl, S.n1, (by decide), k d hd⟩
theorem scNtLen : FnScope ["self"] ["self"] (defScope sNtLen) := ⟨rfl, rfl, rfl, by decide +kernel, rfl, by decide +kernel, by decide +kernel⟩
theorem ok_ntLen {f C : Addr} {fd : FuncData} (F : Fun K "__len__" "Notes.__len__" sNtLen f fd) (S : NCls K mg C) (T : MTxt K mg) : FnOk P w K mg base CX0 1 f fd ["self"] (spNtLen C) := by
  refine F.ok scNtLen (fun vs H Q E h => ?_) (fun cdv A outer s H vs Q E hr h => ?_)
  · obtain ⟨x, dx, d, kvs, rfl, _⟩ := h
    rfl
  · obtain ⟨x, dx, d, kvs, rfl, hN, k⟩ := h
    refine ⟨_, pss_one (ps_ret (pe_callB call_lenD (by rfl) T.len PySem.boot_len (pa_cons (pe_fld (pv 0) (by rfl)) pa_nil))), ?_⟩
    exact ⟨_, rfl, x, C, dx, _, _, rfl, hN.ins, S.cl, S.n1, rfl, d, kvs, rfl, hN.dk, k⟩
theorem scNtIn : FnScope ["self", "x"] ["self", "x"] (defScope sNtIn) := ⟨rfl, rfl, rfl, by decide +kernel, rfl, by decide +kernel, by decide +kernel⟩
theorem ok_ntIn {f C fN : Addr} {fd fdN : FuncData} (F : Fun K "__contains__" "Notes.__contains__" sNtIn f fd) (S : NCls K mg C) (T : MTxt K mg)
    (FN : Fun K "is_name" "is_name" sName fN fdN) (bN : Binds K fdN ["value"] []) (gN : mg "is_name" = some (.ref fN)) : FnOk P w K mg base CX0 2 f fd ["self", "x"] (spNtIn C) := by
  have GN : FnOk P w K mg base CX0 1 fN fdN ["value"] spName := ok_name FN T
  refine F.ok scNtIn (fun vs H Q E h => ?_) (fun cdv A outer s H vs Q E hr h => ?_)
  · obtain ⟨x, dx, d, kvs, v, n, rfl, _⟩ := h
    rfl
  · obtain ⟨x, dx, d, kvs, v, n, rfl, hN, hk, k⟩ := h
    refine ⟨_, pss_one (ps_ret (pe_and (pe_call GN hr rfl gN FN.kp bN .nil pass0 (pa_cons (pv 1) pa_nil)) (pe_one (pe_cmp (pc_din (hu_of hr) (pv 1) (pe_fld (pv 0) (by rfl))) rfl)))), ?_⟩
    refine ⟨_, rfl, v, n, rfl, hk, fun H1 s1 => ⟨_, rfl, ite2 (fun h1 => ?_) (fun h1 => ?_)⟩⟩
    · have h1' : isName v = true := h1
      have k1 := k H1 s1
      cases v with
      | str z =>
        have e : hasK (.str z) kvs = (valV kvs (.inr z)).isSome := by
          show (nameOk z && _) = _
          rw [show nameOk z = true from h1', Bool.true_and]
        rw [e] at k1
        exact ⟨_, rfl, _, rfl, x, C, dx, _, _, rfl, (hN.same s1).ins, S.cl, S.n1, rfl, d, _, rfl, DGet.k (k := Sum.inr z) (hN.same s1).dk, k1⟩
      | _ => cases h1'
    · have k1 := k H1 s1
      have e : hasK v kvs = false := by
        cases v with
        | str z =>
          show (nameOk z && _) = false
          rw [show nameOk z = false from by
            cases q : nameOk z with
            | true => exact absurd q h1
            | false => rfl]
          rfl
        | _ => rfl
      rw [e] at k1
      exact k1
theorem scNtItem : FnScope ["self", "at"] ["self", "at"] (defScope sNtItem) := ⟨rfl, rfl, rfl, by decide +kernel, rfl, by decide +kernel, by decide +kernel⟩
theorem ok_ntItem {f C CN fI fN : Addr} {fd fdI fdN : FuncData} (F : Fun K "__getitem__" "Notes.__getitem__" sNtItem f fd) (S : NCls K mg C) (T : MTxt K mg) (eN : ErrC K mg "InvalidName" CN fI) (FI : Fun K "__init__" "HandleError.__init__" sHInit fI fdI) (bI : Binds K fdI ["self", "value"] [])
    (FN : Fun K "is_name" "is_name" sName fN fdN) (bN : Binds K fdN ["value"] []) (gN : mg "is_name" = some (.ref fN)) : FnOk P w K mg base (L2.CX P w) 3 f fd ["self", "at"] (spNtItem C CN) := by
  have GN : FnOk P w K mg base CX0 1 fN fdN ["value"] spName := ok_name FN T
  have GI : FnOk P w K mg base CX0 1 fI fdI ["self", "value"] (spInitE K "value") := ok_hinit FI
  refine F.okX scNtItem (fun vs H Q E h => ?_) (fun cdv A outer s H vs Q E hr h => ?_)
  · obtain ⟨x, dx, d, kvs, v, n, rfl, _⟩ := h
    rfl
  · obtain ⟨x, dx, d, kvs, v, n, rfl, hN, hk, b, k⟩ := h
    refine ⟨_, pss_cons (ps_if (PW.pt (pw_or (pt_not (pt_val (pe_call GN (hr.mono (by decide)) rfl gN FN.kp bN .nil pass0 (pa_cons (pv 1) pa_nil)))) (pw_or1 (pt_cmp (pc_dnotin (hu_of hr) (pv 1) (pe_fld (pv 0) (by rfl)))))))
        (pss_one (ps_raise rfl (takes_of rfl rfl rfl rfl) (pmk_oex eN.ox eN.i eN.t GI (hr.mono (by decide)) bI .nil pass0 rfl eN.g (pa_cons (pv 1) pa_nil)))) pss_nil)
      (pss_one (ps_ret (pe_dget (hu_of hr) (pe_fld (pv 0) (by rfl)) (pv 1) (fun _ _ => rfl)))), ?_⟩
    refine ⟨_, rfl, v, n, rfl, hk, fun H1 s1 => ⟨_, rfl, ?_⟩⟩
    cases h1 : isName v with
    | false =>
      have e : hasK v kvs = false := by
        cases v with
        | str z =>
          show (nameOk z && _) = false
          rw [show nameOk z = false from h1]
          rfl
        | _ => rfl
      exact iteT (iteT ⟨v, rfl, (show 1 ≤ 1000 by decide), raise_ok eN ((b e).imp s1)⟩)
    | true =>
      cases v with
      | str z =>
        have N1 := hN.same s1
        refine iteF ⟨_, rfl, _, rfl, x, C, dx, _, _, rfl, N1.ins, S.cl, S.n1, rfl, d, _, rfl, DGet.k (k := Sum.inr z) N1.dk, _, rfl, ?_⟩
        cases hv : valV kvs (.inr z) with
        | none =>
          have e : hasK (.str z) kvs = false := by
            show (nameOk z && (valV kvs (.inr z)).isSome) = false
            rw [hv, Bool.and_comm]
            rfl
          exact iteT ⟨_, rfl, (show 1 ≤ 1000 by decide), raise_ok eN ((b e).imp s1)⟩
        | some u =>
          refine iteF ⟨_, rfl, x, C, dx, _, _, rfl, N1.ins, S.cl, S.n1, rfl, _, rfl, d, u, rfl, ?_, k z u rfl h1 hv _ s1⟩
          rw [← hv]
          exact DGet.k (k := Sum.inr z) N1.dk
      | _ => cases h1
end
section
variable {P : Program} {w : World} {K : PySem.W.Frag} {mg : Str → Option Value} {base : Heap}
theorem scNtSet : FnScope ["self", "at", "worth", "step"] ["self", "at", "worth"] (defScope sNtSet) := ⟨rfl, rfl, rfl, by decide +kernel, rfl, by decide +kernel, by decide +kernel⟩
theorem ok_ntSet {f C CN CS fI fN fL fS : Addr} {fd fdI fdN fdL fdS : FuncData} (F : Fun K "__setitem__" "Notes.__setitem__" sNtSet f fd) (S : NCls K mg C) (T : MTxt K mg) (TL : LTxt mg) (eN : ErrC K mg "InvalidName" CN fI) (eS : ErrC K mg "InvalidStep" CS fI)
    (FI : Fun K "__init__" "HandleError.__init__" sHInit fI fdI) (bI : Binds K fdI ["self", "value"] [])
    (FN : Fun K "is_name" "is_name" sName fN fdN) (bN : Binds K fdN ["value"] []) (gN : mg "is_name" = some (.ref fN))
    (FL : Fun K "is_listing" "is_listing" sListing fL fdL) (bL : Binds K fdL ["value"] []) (gL : mg "is_listing" = some (.ref fL))
    (FS : Fun K "is_step" "is_step" sStep fS fdS) (bS : Binds K fdS ["value"] []) (gS : mg "is_step" = some (.ref fS)) (GS : FnOk P w K mg base CX0 2 fS fdS ["value"] spStep) :
    FnOk P w K mg base (L2.CX P w) 3 f fd ["self", "at", "worth"] (spNtSet C CN CS) := by
  have GN : FnOk P w K mg base CX0 1 fN fdN ["value"] spName := ok_name FN T
  have GL : FnOk P w K mg base CX0 1 fL fdL ["value"] (spListing K) := ok_listing FL T TL
  have GI : FnOk P w K mg base CX0 1 fI fdI ["self", "value"] (spInitE K "value") := ok_hinit FI
  refine F.okX scNtSet (fun vs H Q E h => ?_) (fun cdv A outer s H vs Q E hr h => ?_)
  · obtain ⟨x, dx, d, kvs, v, n, wv, oW, rfl, _⟩ := h
    rfl
  · obtain ⟨x, dx, d, kvs, v, n, wv, oW, rfl, hN, hk, hW, hlen, b1, b2, k⟩ := h
    refine ⟨_, pss_cons (ps_if (pt_not (pt_val (pe_call GN (hr.mono (by decide)) rfl gN FN.kp bN .nil pass0 (pa_cons (pv 1) pa_nil))))
        (pss_one (ps_raise rfl (takes_of rfl rfl rfl rfl) (pmk_oex eN.ox eN.i eN.t GI (hr.mono (by decide)) bI .nil pass0 rfl eN.g (pa_cons (pv 1) pa_nil)))) pss_nil)
      (pss_cons (ps_if (PW.pt (pw_or (pt_not (pt_val (pe_call GL (hr.mono (by decide)) rfl gL FL.kp bL .nil pass0 (pa_cons (pv 2) pa_nil))))
          (pw_or1 (pt_not (pt_val (pe_callB (cr_all rfl) (by rfl) T.all (by decide +kernel) (pa_cons (pe_lc (own := [("step", 3)]) (g := gName 3) (by rfl) scNtSet.nd (pi_either (pi_list (pv 2)) (pi_tup (pv 2))) (blkOk_by (own := [("step", 3)]) (N := ["self", "at", "worth", "step"]) (sc := defScope sNtSet) (by decide +kernel))
            (fun _ _ _ _ _ => pg_name (i := 3) scNtSet.nd rfl (Or.inl rfl)) (fun _ _ _ _ _ => pts_nil)
            (fun _ _ _ _ _ => pe_call GS hr rfl gS FS.kp bS .nil pass0 (pa_cons (pv 3) pa_nil))) pa_nil)))))))
        (pss_one (ps_raise rfl (takes_of rfl rfl rfl rfl) (pmk_oex eS.ox eS.i eS.t GI (hr.mono (by decide)) bI .nil pass0 rfl eS.g (pa_cons (pv 2) pa_nil)))) pss_nil)
      (pss_one (ps_dput (hu_of hr) (pe_fld (pv 0) (by rfl)) (pv 1) (pe_callTy call_tupleX (by rfl) T.tup (by decide +kernel) (pa_cons (pv 2) pa_nil)) rfl))), ?_⟩
    refine ⟨_, rfl, v, n, rfl, hk, fun H1 s1 => ⟨_, rfl, ?_⟩⟩
    cases h1 : isName v with
    | false => exact iteT ⟨v, rfl, (show 1 ≤ 1000 by decide), raise_ok eN ((b1 h1).imp s1)⟩
    | true =>
    obtain ⟨z, rfl⟩ : ∃ z, v = .str z := by
      cases v with
      | str z => exact ⟨z, rfl⟩
      | _ => cases h1
    refine iteF ⟨_, rfl, wv, oW, rfl, (hW.same s1).lsq, fun H2 s2 => ?_⟩
    have s12 := s1.trans s2
    cases oW with
    | none => exact ⟨_, rfl, iteT (iteT ⟨wv, rfl, (show 1 ≤ 1000 by decide), raise_ok eS ((b2 h1 rfl).imp s12)⟩)⟩
    | some ws =>
    obtain ⟨a, rfl, ha, hl, hst⟩ := (hW.same s12).yes
    refine ⟨_, rfl, iteF ?_⟩
    rcases ha with e | e
    · refine .inl ⟨_, rfl, a, rfl, ⟨ws, .inl (.inl e)⟩, fun D hD => lc_it walk_list (fun i H' => Same H2 H' ∧ H' D = some (.lst (((ws.take i).map (isStep H2)).map V.bl))) ⟨Same.new hD, upd_same⟩ (fun i H' _ q => .inl (.inl (q.1 _ _ e))) ?_ ?_⟩
      · rintro i y H' H'' hi ⟨s3, hD3⟩ ⟨rfl, hy⟩
        have sy := hst y (List.mem_of_getElem? hy)
        refine ⟨rfl, _, rfl, y, rfl, sy.same s3, _, hD3, ?_, ?_⟩
        · rw [List.length_map, List.length_map, List.length_take]
          exact Nat.lt_of_le_of_lt (Nat.le_trans (Nat.min_le_right _ _) hl) (by decide)
        · refine ⟨fun b o q => ?_, ?_⟩
          · rw [upd_ne (ne_of_none q hD)]
            exact s3 _ _ q
          · rw [upd_same, List.take_add_one, hy, isStep_same sy s3, List.map_append, List.map_append]
            rfl
      · rintro H' ⟨s3, hD3⟩
        refine ⟨_, _, rfl, .inl (.inl hD3), ?_⟩
        have e0 : (((ws.take ws.length).map (isStep H2)).all id) = stepsOk H (some ws) := by
          rw [List.take_length, List.all_map, ← stepsOk_same hW s12]
          rfl
        rw [e0]
        refine ⟨_, rfl, ?_⟩
        cases h2 : stepsOk H (some ws) with
        | false => exact iteT ⟨.ref a, rfl, (show 1 ≤ 1000 by decide), raise_ok eS ((b2 h1 h2).imp (s12.trans s3))⟩
        | true =>
          refine iteF ⟨_, rfl, a, ws, rfl, .inl (s3 _ _ e), fun t H4 s4 e4 => ?_⟩
          have s14 := (s12.trans s3).trans s4
          have N4 := hN.same s14
          exact ⟨_, rfl, x, C, dx, _, _, rfl, N4.ins, S.cl, S.n1, rfl, _, rfl, d, _, rfl, DPut.k (k := Sum.inr z) N4.dk (Nat.lt_of_lt_of_le hlen (by decide)), k z ws rfl h1 rfl h2 _ t s14 e4⟩
    · refine .inr ⟨_, rfl, a, rfl, ⟨ws, .inl (.inl e)⟩, fun D hD => lc_it walk_tup (fun i H' => Same H2 H' ∧ H' D = some (.lst (((ws.take i).map (isStep H2)).map V.bl))) ⟨Same.new hD, upd_same⟩ (fun i H' _ q => .inl (.inl (q.1 _ _ e))) ?_ ?_⟩
      · rintro i y H' H'' hi ⟨s3, hD3⟩ ⟨rfl, hy⟩
        have sy := hst y (List.mem_of_getElem? hy)
        refine ⟨rfl, _, rfl, y, rfl, sy.same s3, _, hD3, ?_, ?_⟩
        · rw [List.length_map, List.length_map, List.length_take]
          exact Nat.lt_of_le_of_lt (Nat.le_trans (Nat.min_le_right _ _) hl) (by decide)
        · refine ⟨fun b o q => ?_, ?_⟩
          · rw [upd_ne (ne_of_none q hD)]
            exact s3 _ _ q
          · rw [upd_same, List.take_add_one, hy, isStep_same sy s3, List.map_append, List.map_append]
            rfl
      · rintro H' ⟨s3, hD3⟩
        refine ⟨_, _, rfl, .inl (.inl hD3), ?_⟩
        have e0 : (((ws.take ws.length).map (isStep H2)).all id) = stepsOk H (some ws) := by
          rw [List.take_length, List.all_map, ← stepsOk_same hW s12]
          rfl
        rw [e0]
        refine ⟨_, rfl, ?_⟩
        cases h2 : stepsOk H (some ws) with
        | false => exact iteT ⟨.ref a, rfl, (show 1 ≤ 1000 by decide), raise_ok eS ((b2 h1 h2).imp (s12.trans s3))⟩
        | true =>
          refine iteF ⟨_, rfl, a, ws, rfl, .inr (s3 _ _ e), fun t H4 s4 e4 => ?_⟩
          have s14 := (s12.trans s3).trans s4
          have N4 := hN.same s14
          exact ⟨_, rfl, x, C, dx, _, _, rfl, N4.ins, S.cl, S.n1, rfl, _, rfl, d, _, rfl, DPut.k (k := Sum.inr z) N4.dk (Nat.lt_of_lt_of_le hlen (by decide)), k z ws rfl h1 rfl h2 _ t s14 e4⟩
end
/-! ### what is told in order -/
theorem pe_fldK {X : Cx} {K : PySem.W.Frag} {e : Expr} {f : Str} {pos : Pos} {ta : TE} (hK : X.K = K) (he : PE X e ta) (hb : attributeBase e f X.env (eval e X.env) = eval e X.env) : PE X (.Attribute e f pos) (tFld K ta f) := by
  subst hK
  exact pe_fld he hb
theorem EntAt.put {kvs : List (Key × V)} {H : Hp} {y : Str} {it : V} {D : Addr} {xs : List V} {o : HO} (h : EntAt kvs H y it) (e : H D = some (.lst xs)) : EntAt kvs (upd H D o) y it := by
  obtain ⟨q, u, e1, e2, e3⟩ := h
  refine ⟨q, u, e1, ?_, e3⟩
  rw [upd_ne fun z => by rw [z, e] at e2; cases e2]
  exact e2
theorem has_key {kvs : List (Key × V)} {names : List Str} (hk : kvs.map (·.1) = names.map Sum.inr) {y : Str} (hy : y ∈ names) : ∃ u, valV kvs (.inr y) = some u := by
  have h1 : (Sum.inr y : Key) ∈ kvs.map (·.1) := by
    rw [hk]
    exact List.mem_map.mpr ⟨y, hy, rfl⟩
  obtain ⟨kv, hkv, e⟩ := List.mem_map.mp h1
  have h2 : (kvs.any fun kv => decide (kv.1 = (Sum.inr y : Key))) = true := List.any_eq_true.mpr ⟨kv, hkv, decide_eq_true e⟩
  rw [valV_any] at h2
  exact Option.isSome_iff_exists.mp h2
theorem key_at {kvs : List (Key × V)} {names : List Str} (hk : kvs.map (·.1) = names.map Sum.inr) {i : Nat} {k : Key} {v : V} (h : kvs[i]? = some (k, v)) : ∃ z, names[i]? = some z ∧ k = .inr z := by
  have e : (kvs.map (·.1))[i]? = some k := by rw [List.getElem?_map, h]; rfl
  rw [hk, List.getElem?_map] at e
  cases q : names[i]? with
  | none => rw [q] at e; cases e
  | some z => rw [q] at e; cases e; exact ⟨z, rfl, rfl⟩
theorem keys_len {kvs : List (Key × V)} {names : List Str} (hk : kvs.map (·.1) = names.map Sum.inr) : kvs.length = names.length := by
  have e := congrArg List.length hk
  rwa [List.length_map, List.length_map] at e
section
variable {P : Program} {w : World} {K : PySem.W.Frag} {mg : Str → Option Value} {base : Heap}
theorem scNtListed : FnScope ["self", "name"] ["self"] (defScope sNtListed) := ⟨rfl, rfl, rfl, by decide +kernel, rfl, by decide +kernel, by decide +kernel⟩
theorem ok_ntListed {f C : Addr} {fd : FuncData} (F : Fun K "listed" "Notes.listed" sNtListed f fd) (S : NCls K mg C) (T : MTxt K mg) (TN : NTxt mg) : FnOk P w K mg base CX0 1 f fd ["self"] (spNtListed C) := by
  refine F.ok scNtListed (fun vs H Q E h => ?_) (fun cdv A outer s H vs Q E hr h => ?_)
  · obtain ⟨x, dx, d, kvs, names, rfl, _⟩ := h
    rfl
  · obtain ⟨x, dx, d, kvs, names, rfl, hN, hkeys, h64, k⟩ := h
    refine ⟨_, pss_one (ps_ret (pe_callTy call_tupleX (by rfl) T.tup (by decide +kernel) (pa_cons
      (pe_lc (own := [("name", 1)]) (g := gName 1) (by rfl) scNtListed.nd (pi_list (pe_callB cr_sortedS (by rfl) TN.sorted (by decide +kernel) (pa_cons
          (pe_lock (pe_lc (own := [("name", 1)]) (g := gName 1) (by rfl) scNtListed.nd (pi_keys (pe_fld (pv 0) (by rfl))) (blkOk_by (own := [("name", 1)]) (N := ["self", "name"]) (sc := defScope sNtListed) (by decide +kernel))
            (fun _ _ _ _ _ => pg_name (i := 1) scNtListed.nd rfl (Or.inl rfl)) (fun _ _ _ _ _ => pts_nil)
            (fun _ _ _ _ _ => pe_callTy SkE.call_str_str (by rfl) T.str (by decide +kernel) (pa_cons (pv 1) pa_nil)))) pa_nil)))
        (blkOk_by (own := [("name", 1)]) (N := ["self", "name"]) (sc := defScope sNtListed) (by decide +kernel))
        (fun _ _ _ _ _ => pg_name (i := 1) scNtListed.nd rfl (Or.inl rfl)) (fun _ _ _ _ _ => pts_nil)
        (fun _ _ _ _ _ => pe_tup (pa_cons (pv 1) (pa_cons (pe_dget (by exact hu_of hr) (pe_fldK (K := K) rfl (pv 0) (by rfl)) (pv 1) (fun _ _ => rfl)) pa_nil)))) pa_nil))), ?_⟩
    have ex : x ≠ d := hN.ne
    have klen := keys_len hkeys
    refine ⟨d, _, hN.dk, True.intro, fun od => ⟨_, rfl, x, C, dx, _, _, rfl, (upd_ne ex).trans hN.ins, S.cl, S.n1, rfl, d, od, rfl, .inl ⟨kvs, upd_same, fun D hD => lc_it walk_keys (fun i H' => Same (upd H d (.frz od (.dK kvs))) H' ∧ H' D = some (.lst ((names.take i).map V.str))) ⟨Same.new hD, upd_same⟩ (fun i H' _ e => e.1 _ _ upd_same) ?_ ?_⟩⟩⟩
    · rintro i y H' H'' hi ⟨s2, hD2⟩ ⟨rfl, key, u, hkv, rfl⟩
      obtain ⟨z, hz, rfl⟩ := key_at hkeys hkv
      refine ⟨rfl, _, rfl, z, rfl, _, hD2, ?_, ?_⟩
      · rw [List.length_map, List.length_take]
        exact Nat.lt_of_le_of_lt (Nat.min_le_right _ _) (Nat.lt_trans h64 (by decide))
      · refine ⟨fun b o e => ?_, ?_⟩
        · rw [upd_ne (ne_of_none e hD)]
          exact s2 _ _ e
        · rw [upd_same, List.take_add_one, hz, List.map_append]
          rfl
    · rintro H' ⟨s2, hD2⟩
      refine ⟨s2 _ _ upd_same, ?_⟩
      have nDd : D ≠ d := fun q => by rw [q, upd_same] at hD; cases hD
      have s3 : Same H (upd H' d (.dK kvs)) := fun b o e => by
        by_cases q : b = d
        · rw [q, hN.dk] at e
          rw [q, upd_same, ← e]
        · rw [upd_ne q]
          exact s2 _ _ (by rw [upd_ne q]; exact e)
      have e3 : (upd H' d (.dK kvs)) D = some (.lst (names.map V.str)) := by
        rw [upd_ne nDd, hD2, klen, List.take_length]
      generalize upd H' d (.dK kvs) = H3 at *
      refine ⟨D, names, rfl, .inl (.inl e3), h64, fun ys p perm srt hp => ?_⟩
      have s4 := s3.trans (Same.new (o := .lst (ys.map V.str)) hp)
      have e4 : (upd H3 p (.lst (ys.map V.str))) p = _ := upd_same
      generalize upd H3 p (.lst (ys.map V.str)) = H4 at *
      have ylen : ys.length < 64 := by rw [perm.length_eq]; exact h64
      refine ⟨p, rfl, ⟨_, .inl (.inl e4)⟩, fun D2 hD5 => lc_it walk_list (fun i H' => Same H4 H' ∧ ∃ its, H' D2 = some (.lst its) ∧ its.length = i ∧ Paired (EntAt kvs H') (ys.take i) its) ⟨Same.new hD5, [], upd_same, rfl, .nil⟩ (fun i H' _ e => .inl (.inl (e.1 _ _ e4))) ?_ ?_⟩
      · rintro i y Hx H5 hi ⟨s5, its, hD6, il, pr⟩ ⟨rfl, hy⟩
        rw [List.getElem?_map] at hy
        cases hq : ys[i]? with
        | none => rw [hq] at hy; cases hy
        | some z =>
        rw [hq] at hy
        cases hy
        obtain ⟨u, hu⟩ := has_key hkeys (perm.mem_iff.mp (List.mem_of_getElem? hq))
        have N5 := hN.same (s4.trans s5)
        refine ⟨rfl, _, rfl, _, rfl, x, C, dx, _, _, rfl, N5.ins, S.cl, S.n1, rfl, _, rfl, d, u, rfl, (by rw [← hu]; exact DGet.k (k := Sum.inr z) N5.dk), (by show 2 ≤ sizeLine; decide), fun q hq2 => ?_⟩
        have s6 := Same.new (o := .tup [.str z, u]) hq2
        have e6 : (upd H5 q (.tup [.str z, u])) q = _ := upd_same
        generalize upd H5 q (.tup [.str z, u]) = H6 at *
        refine ⟨its, s6 _ _ hD6, ?_, fun b o e => ?_, its ++ [.ref q], upd_same, by rw [List.length_append, il]; rfl, ?_⟩
        · rw [il, List.length_map] at *
          exact Nat.lt_trans hi (Nat.lt_trans ylen (by decide))
        · rw [upd_ne (ne_of_none e hD5)]
          exact s6 _ _ (s5 _ _ e)
        · rw [List.take_add_one, hq]
          exact (paired_imp (fun _ _ h => (h.same s6).put (s6 _ _ hD6)) pr).snoc (EntAt.put ⟨q, u, rfl, e6, hu⟩ (s6 _ _ hD6))
      · rintro H5 ⟨s5, its, hD6, il, pr⟩
        refine ⟨D2, its, rfl, .inl hD6, fun t H6 s6 e6 => ?_⟩
        rw [List.length_map, List.take_length] at pr
        exact k H6 t ys its ((s4.trans s5).trans s6) perm srt e6 (paired_imp (fun _ _ h => h.same s6) pr)
end
/-! ### orders of texts -/
def leS (a b : Str) : Prop := ltCps b.cps.toList a.cps.toList = false
theorem leS_iff {a b : Str} : leS a b ↔ ¬ b.cps.toList < a.cps.toList := by
  unfold leS
  rw [PyProof.Rows.ltCps_eq]
  exact decide_eq_false_iff_not
theorem leS_trans {a b c : Str} (h1 : leS a b) (h2 : leS b c) : leS a c := by
  rw [leS_iff] at *
  exact List.le_trans (α := Nat) h1 h2
theorem leS_anti {a b : Str} (h1 : leS a b) (h2 : leS b a) : a = b := by
  rw [leS_iff] at *
  have e : a.cps.toList = b.cps.toList := List.le_antisymm (α := Nat) h1 h2
  cases a with
  | mk a =>
    cases b with
    | mk b =>
      have e2 : a = b := Array.toList_inj.mp e
      rw [e2]
theorem rising_le : ∀ {r : List Str} {p : Str}, risingS p r = true → ∀ y ∈ r, leS p y
  | [], _, _, _, h => nomatch h
  | x :: r, p, h, y, hy => by
    have h' : (!ltCps x.cps.toList p.cps.toList && risingS x r) = true := h
    rw [Bool.and_eq_true] at h'
    have hp : leS p x := by
      unfold leS
      cases q : ltCps x.cps.toList p.cps.toList with
      | true => rw [q] at h'; cases h'.1
      | false => rfl
    rcases List.mem_cons.mp hy with rfl | hy
    · exact hp
    · exact leS_trans hp (rising_le h'.2 y hy)
theorem sorted_tail {x : Str} {r : List Str} (h : sortedS (x :: r) = true) : sortedS r = true := by
  cases r with
  | nil => rfl
  | cons y r =>
    have h' : (!ltCps y.cps.toList x.cps.toList && risingS y r) = true := h
    rw [Bool.and_eq_true] at h'
    exact h'.2
theorem sorted_uniq : ∀ {xs ys : List Str}, xs.Perm ys → sortedS xs = true → sortedS ys = true → xs = ys
  | [], ys, p, _, _ => by rw [List.Perm.nil_eq p]
  | x :: xs, [], p, _, _ => by cases p.length_eq
  | x :: xs, y :: ys, p, h1, h2 => by
    have e : x = y := by
      rcases List.mem_cons.mp (p.mem_iff.mp (List.mem_cons_self ..)) with q | q
      · exact q
      · rcases List.mem_cons.mp (p.mem_iff.mpr (List.mem_cons_self (a := y) (l := ys))) with r | r
        · exact r.symm
        · exact leS_anti (rising_le h1 y r) (rising_le h2 x q)
    subst e
    rw [sorted_uniq (List.perm_cons _ |>.mp p) (sorted_tail h1) (sorted_tail h2)]
/-! ### o[i] = v by an own method -/
section
variable {X : Cx} {CX : CXT} {n : Nat} {f C : Addr} {fd : FuncData} {ps : List Str} {sp : Sp} {E : XK}
def rSetO (C : Addr) (sp : Sp) (E : XK) : TSet := fun o i v H Q => ∃ a dx fs, o = .ref a ∧ H a = some (.ins C dx fs) ∧ sp [.ref a, i, v] H (fun _ H' => Q H') E
theorem set_own (F : FnOk X.prog X.w X.K X.mg X.base CX n f fd ps sp) (hq : PySem.W.noSeq X.K C = true) (hs : PySem.W.findIn X.K (.ref C) "__setitem__" = some (some (.ref f))) (hfn : PySem.W.isFn X.K (.ref f) = true) (hb : Binds X.K fd ps []) (hr : Room n X.A) (hx : Passes CX X E) : PSet X (rSetO C sp E) := by
  intro pins s σ H o i v ov iv u Q I ro ri rv h
  obtain ⟨a, dx, fs, rfl, hX, hsp⟩ := h
  cases ro
  obtain ⟨mA, J, _⟩ := ins_get I.hok hX
  obtain ⟨od, J, _⟩ := J.look
  obtain ⟨m, hF⟩ := I.fr
  exact PySem.W.ksp_setItem hF I.ok.mod.kin J hq hs hfn (run_at0 F hb hr hx I (.cons (show RelV (V.ref a) (Value.ref a) from rfl) (.cons ri (.cons rv .nil))) hsp fun w s' z H' I' rz q => ⟨H', I', q⟩)
end
abbrev sLSet : Stmt := top 31
abbrev sWord : Stmt := top 32
abbrev sBad : Stmt := top 30
def wordsW : List Str := ["a", "ab", "abc", "abcd", "abcde", "abcdef", "abcdefg", "abcdefgh", "b", "c", "x", "y", "z"]
def spWord : Sp := fun vs H Q _ => ∃ (p q : Addr), vs = [.ref p] ∧ PoolAt H p q ∧ ∀ H' z, But p q H H' → PoolAt H' p q → z ∈ wordsW → Q (.str z) H'
section
variable {P : Program} {w : World} {K : PySem.W.Frag} {mg : Str → Option Value} {base : Heap}
theorem scLSet : FnScope ["table", "name", "run"] ["table", "name", "run"] (defScope sLSet) := ⟨rfl, rfl, rfl, by decide +kernel, rfl, by decide +kernel, by decide +kernel⟩
theorem ok_lset {f C CN CS fM : Addr} {fd fdM : FuncData} (F : Fun K "_law_set" "_law_set" sLSet f fd) (GM : FnOk P w K mg base (L2.CX P w) 3 fM fdM ["self", "at", "worth"] (spNtSet C CN CS)) (hq : PySem.W.noSeq K C = true)
    (hs : PySem.W.findIn K (.ref C) "__setitem__" = some (some (.ref fM))) (hfn : PySem.W.isFn K (.ref fM) = true) (bM : Binds K fdM ["self", "at", "worth"] []) : FnOk P w K mg base (L2.CX P w) 4 f fd ["table", "name", "run"] (spNtSet C CN CS) := by
  refine F.okX scLSet (fun vs H Q E h => ?_) (fun cdv A outer s H vs Q E hr h => ?_)
  · obtain ⟨x, dx, d, kvs, v, n, wv, oW, rfl, _⟩ := h
    rfl
  · have h0 := h
    obtain ⟨x, dx, d, kvs, v, n, wv, oW, rfl, hN, _⟩ := h
    refine ⟨_, pss_one (ps_asg (pv 2) (pg_sub (pv 0) (pv 1) (set_own (C := C) GM hq hs hfn bM hr (passes_call (takes_of rfl rfl rfl rfl) (fun _ _ _ _ h => h))))), ?_⟩
    exact ⟨wv, rfl, .ref x, rfl, v, rfl, x, dx, _, rfl, hN.ins, h0⟩
theorem scWord : FnScope ["pool"] ["pool"] (defScope sWord) := ⟨rfl, rfl, rfl, by decide +kernel, rfl, by decide +kernel, by decide +kernel⟩
theorem ok_word {f fD : Addr} {fd fdD : FuncData} (F : Fun K "_law_word" "_law_word" sWord f fd) (FD : Fun K "_law_draw" "_law_draw" sDraw fD fdD) (bD : Binds K fdD ["pool", "many"] []) (gD : mg "_law_draw" = some (.ref fD))
    (GD : FnOk P w K mg base CX0 2 fD fdD ["pool", "many"] spDraw) : FnOk P w K mg base CX0 3 f fd ["pool"] spWord := by
  refine F.ok scWord (fun vs H Q E h => ?_) (fun cdv A outer s H vs Q E hr h => ?_)
  · obtain ⟨p, q, rfl, _⟩ := h
    rfl
  · obtain ⟨p, q, rfl, hP, k⟩ := h
    refine ⟨_, pss_one (ps_ret (pe_ifExp (pt_cmpR op_eq (pe_call GD hr rfl gD FD.kp bD .nil pass0 (pa_cons (pv 0) (pa_cons pe_int pa_nil))) pe_int (nomark _))
      (pe_slice sl_str pe_str po_none (po_some (pe_op op_add pe_int (pe_call GD hr rfl gD FD.kp bD .nil pass0 (pa_cons (pv 0) (pa_cons pe_int pa_nil))))))
      (pe_ix ix_str pe_str (pe_call GD hr rfl gD FD.kp bD .nil pass0 (pa_cons (pv 0) (pa_cons pe_int pa_nil))) (fun _ _ => rfl)))), ?_⟩
    refine ⟨_, rfl, p, q, 2, rfl, hP, by decide, by decide, fun H1 r b1 P1 r0 r2 => ⟨rfl, _, rfl, ite2 (fun _ => ?_) (fun _ => ?_)⟩⟩
    · refine ⟨_, rfl, p, q, 8, rfl, P1, by decide, by decide, fun H2 r' b2 P2 r0' r8 => ⟨_, _, rfl, rfl, _, rfl, _, rfl, by decide, ?_⟩⟩
      refine k H2 _ (b1.trans b2) P2 ?_
      obtain ⟨j, rfl⟩ := Int.eq_ofNat_of_zero_le r0'
      match j, r8 with
      | 0, _ => decide +kernel
      | 1, _ => decide +kernel
      | 2, _ => decide +kernel
      | 3, _ => decide +kernel
      | 4, _ => decide +kernel
      | 5, _ => decide +kernel
      | 6, _ => decide +kernel
      | 7, _ => decide +kernel
      | n + 8, h => exact absurd h (by omega)
    · refine ⟨_, rfl, p, q, 6, rfl, P1, by decide, by decide, fun H2 r' b2 P2 r0' r6 => ?_⟩
      obtain ⟨j, rfl⟩ := Int.eq_ofNat_of_zero_le r0'
      have key : ∃ c, atI ("abcxyz" : Str).cps.toList (j : Int) = some c ∧ (⟨#[c]⟩ : Str) ∈ wordsW := by
        match j, r6 with
        | 0, _ => exact ⟨97, by decide +kernel, by decide +kernel⟩
        | 1, _ => exact ⟨98, by decide +kernel, by decide +kernel⟩
        | 2, _ => exact ⟨99, by decide +kernel, by decide +kernel⟩
        | 3, _ => exact ⟨120, by decide +kernel, by decide +kernel⟩
        | 4, _ => exact ⟨121, by decide +kernel, by decide +kernel⟩
        | 5, _ => exact ⟨122, by decide +kernel, by decide +kernel⟩
        | n + 6, h => exact absurd h (by omega)
      obtain ⟨c, hc, hw⟩ := key
      exact ⟨_, _, c, rfl, rfl, by decide, hc, k H2 _ (b1.trans b2) P2 hw⟩
end
/-- what is no name -/
inductive OddN (p q : Addr) (H : Hp) : V → PyData → Prop
  | str (z : Str) (h : z ∈ (["", "A", "a1", "toolongne", "a b"] : List Str)) : OddN p q H (.str z) (.str z)
  | non : OddN p q H .non .none
  | three : OddN p q H (.int 3) (.int 3)
  | tt : OddN p q H (.bl true) (.bool true)
  | tup {a : Addr} (h : Sf p q H a (.tup [.str "a"])) : OddN p q H (.ref a) (.tuple [.str "a"])
  | lst {a : Addr} (h : Sf p q H a (.lst [.str "a"])) : OddN p q H (.ref a) (.list [.str "a"])
theorem OddN.mv {p q : Addr} {H H' : Hp} {v : V} {d : PyData} (h : OddN p q H v d) (b : Mv p q H H') : OddN p q H' v d := by
  cases h with
  | str z h => exact .str z h
  | non => exact .non
  | three => exact .three
  | tt => exact .tt
  | tup h => exact .tup (h.mv b)
  | lst h => exact .lst (h.mv b)
theorem OddN.kd {p q : Addr} {H : Hp} {v : V} {d : PyData} (h : OddN p q H v d) : ∃ n, Kd H v n := by
  cases h with
  | str z h =>
    refine ⟨_, .str z ?_⟩
    have a : (["", "A", "a1", "toolongne", "a b"] : List Str).all (fun z => decide (z.length ≤ 1000)) = true := by decide +kernel
    exact of_decide_eq_true (List.all_eq_true.mp a z h)
  | non => exact ⟨_, .non⟩
  | three => exact ⟨_, .int _⟩
  | tt => exact ⟨_, .bl _⟩
  | tup h => exact ⟨_, .tup h.e⟩
  | lst h => exact ⟨_, .lst h.e⟩
theorem OddN.no {p q : Addr} {H : Hp} {v : V} {d : PyData} (h : OddN p q H v d) : isName v = false := by
  cases h with
  | str z h =>
    have a : (["", "A", "a1", "toolongne", "a b"] : List Str).all (fun z => !nameOk z) = true := by decide +kernel
    have b := List.all_eq_true.mp a z h
    show nameOk z = false
    cases q : nameOk z with
    | true => rw [q] at b; cases b
    | false => rfl
  | _ => rfl
theorem OddN.rp {K : PySem.W.Frag} {p q : Addr} {H : Hp} {v : V} {d : PyData} (h : OddN p q H v d) : Rp K H v d := by
  cases h with
  | str z h => exact .inl (.str _)
  | non => exact .inl .non
  | three => exact .inl (.int _)
  | tt => exact .inl (.bl _)
  | tup h => exact .inl (.tup (.inl (.inl h.e)) (.cons (.str _) .nil))
  | lst h => exact .inl (.lst (.inl (.inl h.e)) (.cons (.str _) .nil))
theorem OddN.ok {p q : Addr} {H : Hp} {v : V} {d : PyData} (h : OddN p q H v d) : okD d = true := by
  cases h with
  | str z h =>
    have a : (["", "A", "a1", "toolongne", "a b"] : List Str).all (fun z => okD (.str z)) = true := by decide +kernel
    exact List.all_eq_true.mp a z h
  | _ => decide +kernel
def spBad : Sp := fun vs H Q _ => ∃ (p q : Addr), vs = [.ref p] ∧ PoolAt H p q ∧ ∀ H' v d, But p q H H' → PoolAt H' p q → OddN p q H' v d → Q v H'
section
variable {P : Program} {w : World} {K : PySem.W.Frag} {mg : Str → Option Value} {base : Heap}
theorem scBad : FnScope ["pool"] ["pool"] (defScope sBad) := ⟨rfl, rfl, rfl, by decide +kernel, rfl, by decide +kernel, by decide +kernel⟩
theorem ok_bad {f fD : Addr} {fd fdD : FuncData} (F : Fun K "_law_bad_name" "_law_bad_name" sBad f fd) (FD : Fun K "_law_draw" "_law_draw" sDraw fD fdD) (bD : Binds K fdD ["pool", "many"] []) (gD : mg "_law_draw" = some (.ref fD))
    (GD : FnOk P w K mg base CX0 2 fD fdD ["pool", "many"] spDraw) : FnOk P w K mg base CX0 3 f fd ["pool"] spBad := by
  refine F.ok scBad (fun vs H Q E h => ?_) (fun cdv A outer s H vs Q E hr h => ?_)
  · obtain ⟨p, q, rfl, _⟩ := h
    rfl
  · obtain ⟨p, q, rfl, hP, k⟩ := h
    refine ⟨_, pss_one (ps_ret (pe_ix ix_list (pe_lst (pa_cons pe_str (pa_cons pe_str (pa_cons pe_str (pa_cons pe_str (pa_cons pe_str (pa_cons pe_non (pa_cons pe_int (pa_cons pe_bl (pa_cons (pe_tup (pa_cons pe_str pa_nil)) (pa_cons (pe_lst (pa_cons pe_str pa_nil)) pa_nil)))))))))))
      (pe_call GD hr rfl gD FD.kp bD .nil pass0 (pa_cons (pv 0) (pa_cons pe_int pa_nil))) (fun _ _ => rfl))), ?_⟩
    refine ⟨(by show 1 ≤ sizeLine; decide), fun t ht => ?_⟩
    have st := Same.new (o := .tup [.str "a"]) ht
    have ft : Sf p q _ t (.tup [.str "a"]) := Sf.new hP ht
    have hP1 := hP.same st
    generalize upd H t (.tup [.str "a"]) = H1 at *
    refine ⟨(by show 1 ≤ sizeLine; decide), fun l hl => ?_⟩
    have sl := Same.new (o := .lst [.str "a"]) hl
    have fl : Sf p q _ l (.lst [.str "a"]) := Sf.new hP1 hl
    have hP2 := hP1.same sl
    have ft2 := ft.same sl
    generalize upd H1 l (.lst [.str "a"]) = H2 at *
    refine ⟨(by show 10 ≤ sizeLine; decide), fun L hL => ?_⟩
    have sL := Same.new (o := .lst [.str "", .str "A", .str "a1", .str "toolongne", .str "a b", .non, .int 3, .bl true, .ref t, .ref l]) hL
    have fL : Sf p q _ L (.lst [.str "", .str "A", .str "a1", .str "toolongne", .str "a b", .non, .int 3, .bl true, .ref t, .ref l]) := Sf.new hP2 hL
    have hP4 := hP2.same sL
    have ft4 := ft2.same sL
    have fl4 := fl.same sL
    have s04 : Same H _ := (st.trans sl).trans sL
    refine ⟨_, rfl, p, q, 10, rfl, hP4, (by decide), (by decide), fun H5 r b5 P5 r0 r9 => ?_⟩
    obtain ⟨j, rfl⟩ := Int.eq_ofNat_of_zero_le r0
    have hb : But p q H H5 := (But.of_same s04).trans b5
    have fL5 := fL.but b5
    have ft5 := ft4.but b5
    have fl5 := fl4.but b5
    have key : ∃ v d', ([.str "", .str "A", .str "a1", .str "toolongne", .str "a b", .non, .int 3, .bl true, .ref t, .ref l] : List V)[j]? = some v ∧ OddN p q H5 v d' := by
      match j, r9 with
      | 0, _ => exact ⟨_, _, rfl, .str _ (by decide +kernel)⟩
      | 1, _ => exact ⟨_, _, rfl, .str _ (by decide +kernel)⟩
      | 2, _ => exact ⟨_, _, rfl, .str _ (by decide +kernel)⟩
      | 3, _ => exact ⟨_, _, rfl, .str _ (by decide +kernel)⟩
      | 4, _ => exact ⟨_, _, rfl, .str _ (by decide +kernel)⟩
      | 5, _ => exact ⟨_, _, rfl, .non⟩
      | 6, _ => exact ⟨_, _, rfl, .three⟩
      | 7, _ => exact ⟨_, _, rfl, .tt⟩
      | 8, _ => exact ⟨_, _, rfl, .tup ft5⟩
      | 9, _ => exact ⟨_, _, rfl, .lst fl5⟩
      | n + 10, h => exact absurd h (by omega)
    obtain ⟨v, d', e1, e2⟩ := key
    exact ⟨L, _, _, v, rfl, rfl, .inl (.inl fL5.e), atI_nat e1, k _ v d' hb P5 e2⟩
end
/-! ### runs as data -/
abbrev Run := List (Int × Int)
def PairAt (H : Hp) (v : V) (ab : Int × Int) : Prop := ∃ t, v = .ref t ∧ H t = some (.tup [.int ab.1, .int ab.2])
def RunAt (H : Hp) (v : V) (r : Run) : Prop := ∃ t its, v = .ref t ∧ H t = some (.tup its) ∧ Paired (PairAt H) its r
def PairOk (ab : Int × Int) : Prop := 0 ≤ ab.1 ∧ ab.1 < 10 ^ 12 ∧ 0 ≤ ab.2 ∧ ab.2 < 10 ^ 12
def RunOk (r : Run) : Prop := r.length ≤ 4 ∧ ∀ ab ∈ r, PairOk ab
def TpS (H H' : Hp) : Prop := ∀ b xs, H b = some (.tup xs) → H' b = some (.tup xs)
theorem TpS.same {H H' : Hp} (s : Same H H') : TpS H H' := fun b xs e => s _ _ e
theorem TpS.trans {H H1 H2 : Hp} (a : TpS H H1) (b : TpS H1 H2) : TpS H H2 := fun c xs e => b _ _ (a _ _ e)
theorem TpS.ext {H H' : Hp} (s : LamX.ExtN H H') : TpS H H' := fun b xs e => s _ _ e (fun _ q => by cases q)
theorem TpS.mv {p q : Addr} {H H' : Hp} (hP : PoolAt H p q) (s : Mv p q H H') : TpS H H' := fun b xs e => by
  obtain ⟨ns, i, y, z, w, h1, h2, _⟩ := hP
  exact s _ _ (fun z => by rw [z, h1] at e; cases e) (fun z => by rw [z, h2] at e; cases e) (fun _ q => by cases q) e
theorem TpS.upd {H : Hp} {a : Addr} {o o' : HO} (e : H a = some o) (n : ∀ xs, o ≠ .tup xs) : TpS H (upd H a o') := fun b xs q => by
  rw [upd_ne fun z => by rw [z, e] at q; exact n _ (Option.some.inj q)]
  exact q
theorem PairAt.ts {H H' : Hp} {v : V} {ab : Int × Int} (h : PairAt H v ab) (s : TpS H H') : PairAt H' v ab := by
  obtain ⟨t, e1, e2⟩ := h
  exact ⟨t, e1, s _ _ e2⟩
theorem RunAt.ts {H H' : Hp} {v : V} {r : Run} (h : RunAt H v r) (s : TpS H H') : RunAt H' v r := by
  obtain ⟨t, its, e1, e2, e3⟩ := h
  exact ⟨t, its, e1, s _ _ e2, paired_imp (fun _ _ q => q.ts s) e3⟩
def Alk (H : Hp) (a b : Key × V) : Prop := a.1 = b.1 ∧ (∃ z, a.1 = .inr z ∧ z ∈ wordsW) ∧ ∃ r, RunAt H a.2 r ∧ RunAt H b.2 r ∧ RunOk r
abbrev Alike (H : Hp) (kvs kv2 : List (Key × V)) : Prop := Paired (Alk H) kvs kv2
theorem Alike.ts {H H' : Hp} {kvs kv2 : List (Key × V)} (h : Alike H kvs kv2) (s : TpS H H') : Alike H' kvs kv2 :=
  paired_imp (fun _ _ ⟨a, b, r, c, d, e⟩ => ⟨a, b, r, c.ts s, d.ts s, e⟩) h
theorem paired_map {α β : Type} {F : α → β → Prop} {f : α → α} {g : β → β} (i : ∀ a b, F a b → F (f a) (g b)) {xs : List α} {ys : List β} (h : Paired F xs ys) : Paired F (xs.map f) (ys.map g) := by
  induction h with
  | nil => exact .nil
  | cons a _ ih => exact .cons (i _ _ a) ih
theorem paired_len {α β : Type} {F : α → β → Prop} {xs : List α} {ys : List β} (h : Paired F xs ys) : xs.length = ys.length := by
  induction h with
  | nil => rfl
  | cons a _ ih => rw [List.length_cons, List.length_cons, ih]
theorem Alike.any {H : Hp} {kvs kv2 : List (Key × V)} (h : Alike H kvs kv2) (k : Key) : (kvs.any fun kv => decide (kv.1 = k)) = kv2.any fun kv => decide (kv.1 = k) := by
  induction h with
  | nil => rfl
  | cons a _ ih => rw [List.any_cons, List.any_cons, ih, a.1]
theorem Alike.put {H : Hp} {kvs kv2 : List (Key × V)} {z : Str} {v w : V} {r : Run} (h : Alike H kvs kv2) (hz : z ∈ wordsW) (ra : RunAt H v r) (rb : RunAt H w r) (ok : RunOk r) : Alike H (putK kvs (.inr z) v) (putK kv2 (.inr z) w) := by
  unfold putK
  rw [h.any]
  split
  · refine paired_map (fun a b q => ?_) h
    by_cases e : a.1 = .inr z
    · rw [if_pos e, if_pos (q.1 ▸ e)]
      exact ⟨q.1, q.2.1, r, ra, rb, ok⟩
    · rw [if_neg e, if_neg (q.1 ▸ e)]
      exact q
  · exact h.snoc ⟨rfl, ⟨z, rfl, hz⟩, r, ra, rb, ok⟩
theorem putK_len (kvs : List (Key × V)) (k : Key) (v : V) : (putK kvs k v).length ≤ kvs.length + 1 := by
  unfold putK
  split
  · rw [List.length_map]
    exact Nat.le_succ _
  · rw [List.length_append]
    exact Nat.le_refl _
theorem Alike.val {H : Hp} {kvs kv2 : List (Key × V)} (h : Alike H kvs kv2) (k : Key) : (valV kvs k = none ∧ valV kv2 k = none) ∨ ∃ v w r, valV kvs k = some v ∧ valV kv2 k = some w ∧ RunAt H v r ∧ RunAt H w r ∧ RunOk r := by
  induction h with
  | nil => exact .inl ⟨rfl, rfl⟩
  | @cons a b _ _ q _ ih =>
    obtain ⟨e, _, r, ra, rb, ok⟩ := q
    by_cases g : a.1 = k
    · exact .inr ⟨_, _, r, valV_pos g, valV_pos (e ▸ g), ra, rb, ok⟩
    · rw [valV_neg g, valV_neg (e ▸ g)]
      exact ih
theorem Alike.names {H : Hp} {kvs kv2 : List (Key × V)} (h : Alike H kvs kv2) : ∃ names : List Str, kvs.map (·.1) = names.map Sum.inr ∧ kv2.map (·.1) = names.map Sum.inr ∧ names.length = kvs.length ∧ ∀ z ∈ names, z ∈ wordsW := by
  induction h with
  | nil => exact ⟨[], rfl, rfl, rfl, fun _ h => nomatch h⟩
  | @cons a b _ _ q _ ih =>
    obtain ⟨e, ⟨z, ez, hz⟩, _⟩ := q
    obtain ⟨names, n1, n2, n3, n4⟩ := ih
    refine ⟨z :: names, ?_, ?_, ?_, fun y hy => ?_⟩
    · rw [List.map_cons, List.map_cons, n1, ez]
    · rw [List.map_cons, List.map_cons, n2, ← e, ez]
    · rw [List.length_cons, List.length_cons, n3]
    · rcases List.mem_cons.mp hy with rfl | hy
      · exact hz
      · exact n4 y hy
/-! ### what repr shows -/
def Showy (d : PyData) : Prop := d.showable = true ∧ d.depth ≤ 50 ∧ d.shown.length ≤ sizeLine
theorem okD_showy {d : PyData} (h : okD d = true) : Showy d := by
  obtain ⟨a, b, c⟩ := okD_w h
  exact ⟨a, b, Nat.le_trans c (by decide)⟩
abbrev rReprY (K : PySem.W.Frag) : List V → Hp → VK → Prop := fun xs H Q => ∃ v d, xs = [v] ∧ Rp K H v d ∧ Showy d ∧ Q (.str d.shown) H
theorem call_reprY {X : Cx} (hg : X.A.guards = some []) (hu : X.A.units + 64 < cLine) : CallR X (.builtin "repr") (rReprY X.K) := by
  intro pins s σ H xs us Q I r h
  obtain ⟨v, d, rfl, hd, ⟨h1, h2, hsz⟩, q⟩ := h
  obtain ⟨u, rfl, ru⟩ := vals1 r
  obtain ⟨as, hr, hm⟩ := hd.reads I ru
  have fin : ∀ (h' : Heap) (t : Tok) (tk : Nat), (∀ b o, s.heap.get? b = some o → h'.get? b = some o) → EP X pins σ Q (.str d.shown t) { s with heap := h', toks := tk } := fun h' t tk kp =>
    ⟨.str d.shown, H, I.kept (t' := tk) kp, ⟨t, rfl⟩, q⟩
  cases v with
  | ref a =>
    cases ru
    exact repr_of_reads' hr h1 hm hg (by omega) (fun b o e => e) (fun h' t tk kp => fin h' t tk kp) hsz
  | non =>
    cases ru
    cases hr
    exact PySem.P.repr_of_none (fin s.heap _ _ fun b o e => e)
  | bl b =>
    cases ru
    cases hr
    exact PySem.P.repr_of_bool (fin s.heap _ _ fun b o e => e)
  | int i =>
    obtain ⟨t, rfl⟩ := ru
    cases hr
    exact PySem.P.repr_of_int (by simpa [PyData.showable] using h1) (fin s.heap _ _ fun b o e => e)
  | str z =>
    obtain ⟨t, rfl⟩ := ru
    cases hr
    exact PySem.P.repr_of_str (fin s.heap _ _ fun b o e => e) hsz
  | byt b =>
    obtain ⟨t, rfl⟩ := ru
    cases hr
  | flt b =>
    obtain ⟨t, rfl⟩ := ru
    cases hr
  | ty n =>
    cases ru
    cases hr
def dPair (ab : Int × Int) : PyData := .tuple [.int ab.1, .int ab.2]
def dRun (r : Run) : PyData := .tuple (r.map dPair)
/-- many of them, small -/
structure Sm (w : Nat) (ds : List PyData) : Prop where
  sh : PyData.showableAll ds = true
  de : PyData.depthAll ds ≤ 20
  le : PyData.leavesShortAll 13 ds = true
  we : PyData.weightAll ds ≤ w
theorem Sm.nil : Sm 0 [] := ⟨rfl, by decide, rfl, Nat.le_refl _⟩
theorem Sm.cons {w k : Nat} {d : PyData} {ds : List PyData} (h1 : d.showable = true) (h2 : d.depth ≤ 20) (h3 : d.leavesShort 13 = true) (h4 : d.weight ≤ k) (h : Sm w ds) : Sm (k + 1 + w) (d :: ds) := by
  refine ⟨?_, ?_, ?_, ?_⟩
  · show (d.showable && PyData.showableAll ds) = true
    rw [h1, h.sh]
    rfl
  · show max d.depth (PyData.depthAll ds) ≤ 20
    exact Nat.max_le.mpr ⟨h2, h.de⟩
  · show (d.leavesShort 13 && PyData.leavesShortAll 13 ds) = true
    rw [h3, h.le]
    rfl
  · show d.weight + 1 + PyData.weightAll ds ≤ k + 1 + w
    have := h.we
    omega
theorem Sm.showy {w : Nat} {ds : List PyData} (h : Sm w ds) (hw : w ≤ 2 ^ 20) : Showy (.tuple ds) := by
  refine ⟨h.sh, ?_, PyData.shown_fits (B := 13) (by decide) (by decide) h.le (Nat.le_trans h.we hw)⟩
  show PyData.depthAll ds + 1 ≤ 50
  have := h.de
  omega
theorem small_int {i : Int} (h0 : 0 ≤ i) (h1 : i < 10 ^ 12) : PyData.showable (.int i) = true ∧ PyData.leavesShort 13 (.int i) = true ∧ PyData.weight (.int i) ≤ 40 := by
  have e : i.natAbs < 10 ^ 12 := by omega
  have e2 : i.natAbs < 2 ^ 40 := Nat.lt_trans e (by decide)
  have e3 : i.natAbs.log2 < 40 := PySem.Flt.log2_lt_of (by decide) e2
  refine ⟨decide_eq_true (Nat.lt_trans e3 (by decide)), decide_eq_true (PyData.shown_int_le e), ?_⟩
  show (if i == 0 then 0 else i.natAbs.log2 + 1) ≤ 40
  split
  · exact Nat.zero_le _
  · exact e3
theorem sm_pair {ab : Int × Int} (h : PairOk ab) : Sm 82 [.int ab.1, .int ab.2] := by
  obtain ⟨a1, a2, a3⟩ := small_int h.1 h.2.1
  obtain ⟨b1, b2, b3⟩ := small_int h.2.2.1 h.2.2.2
  exact .cons a1 (by show 0 ≤ 20; decide) a2 a3 (.cons b1 (by show 0 ≤ 20; decide) b2 b3 .nil)
theorem sm_run : ∀ {r : Run}, (∀ ab ∈ r, PairOk ab) → PyData.showableAll (r.map dPair) = true ∧ PyData.depthAll (r.map dPair) ≤ 1 ∧ PyData.leavesShortAll 13 (r.map dPair) = true ∧ PyData.weightAll (r.map dPair) ≤ 83 * r.length
  | [], _ => ⟨rfl, by decide, rfl, Nat.le_refl _⟩
  | ab :: r, h => by
    obtain ⟨h1, h2, h3, h4⟩ := sm_run fun x hx => h x (List.mem_cons_of_mem _ hx)
    have p := sm_pair (h ab (List.mem_cons_self ..))
    refine ⟨?_, ?_, ?_, ?_⟩
    · show (PyData.showableAll [.int ab.1, .int ab.2] && PyData.showableAll (r.map dPair)) = true
      rw [p.sh, h1]
      rfl
    · show max (0 + 1) (PyData.depthAll (r.map dPair)) ≤ 1
      exact Nat.max_le.mpr ⟨by decide, h2⟩
    · show (PyData.leavesShortAll 13 [.int ab.1, .int ab.2] && PyData.leavesShortAll 13 (r.map dPair)) = true
      rw [p.le, h3]
      rfl
    · show PyData.weightAll [.int ab.1, .int ab.2] + 1 + PyData.weightAll (r.map dPair) ≤ 83 * (r.length + 1)
      have := p.we
      omega
theorem RunOk.showy {r : Run} (h : RunOk r) : Showy (dRun r) := by
  obtain ⟨h1, h2, h3, h4⟩ := sm_run h.2
  exact Sm.showy (w := 83 * r.length) ⟨h1, Nat.le_trans h2 (by decide), h3, h4⟩ (by have := h.1; omega)
theorem dpAll_run {K : PySem.W.Frag} {H : Hp} {its : List V} {r : Run} (h : Paired (PairAt H) its r) : DpAll K H its (r.map dPair) := by
  induction h with
  | nil => exact .nil
  | cons a _ ih =>
    obtain ⟨t, rfl, e⟩ := a
    exact .cons (.tup (.inl (.inl e)) (.cons (.int _) (.cons (.int _) .nil))) ih
theorem RunAt.dp {K : PySem.W.Frag} {H : Hp} {v : V} {r : Run} (h : RunAt H v r) : Dp K H v (dRun r) := by
  obtain ⟨t, its, rfl, e, p⟩ := h
  exact .tup (.inl (.inl e)) (dpAll_run p)
theorem word_ok {z : Str} (h : z ∈ wordsW) : nameOk z = true ∧ z.length ≤ 8 ∧ okD (.str z) = true ∧ PyData.leavesShort 13 (.str z) = true := by
  have a : wordsW.all (fun z => nameOk z && decide (z.length ≤ 8) && okD (.str z) && PyData.leavesShort 13 (.str z)) = true := by decide +kernel
  have b := List.all_eq_true.mp a z h
  simp only [Bool.and_eq_true, decide_eq_true_eq] at b
  exact ⟨b.1.1.1, b.1.1.2, b.1.2, b.2⟩
/-- both tell the same -/
theorem told_same {K : PySem.W.Frag} {H : Hp} {kvs kv2 : List (Key × V)} (al : Alike H kvs kv2) : ∀ {ys : List Str} {its its2 : List V}, Paired (EntAt kvs H) ys its → Paired (EntAt kv2 H) ys its2 → (∀ y ∈ ys, y ∈ wordsW) →
    ∃ ds, DpAll K H its ds ∧ DpAll K H its2 ds ∧ Sm (400 * ys.length) ds := by
  intro ys
  induction ys with
  | nil =>
    intro its its2 h1 h2 _
    cases h1
    cases h2
    exact ⟨[], .nil, .nil, .nil⟩
  | cons y ys ih =>
    intro its its2 h1 h2 hw
    cases h1 with
    | cons a1 r1 =>
    cases h2 with
    | cons a2 r2 =>
    obtain ⟨ds, d1, d2, sm⟩ := ih r1 r2 fun z hz => hw z (List.mem_cons_of_mem _ hz)
    obtain ⟨q, u, rfl, e1, e2⟩ := a1
    obtain ⟨q2, u2, rfl, e3, e4⟩ := a2
    rcases al.val (.inr y) with ⟨n1, _⟩ | ⟨v, w, r, v1, v2, ra, rb, ok⟩
    · rw [n1] at e2
      cases e2
    · rw [v1] at e2
      rw [v2] at e4
      cases e2
      cases e4
      obtain ⟨_, wl, _, wv⟩ := word_ok (hw y (List.mem_cons_self ..))
      obtain ⟨h1, h2, h3, h4⟩ := sm_run ok.2
      refine ⟨.tuple [.str y, dRun r] :: ds, .cons (.tup (.inl (.inl e1)) (.cons (.str _) (.cons ra.dp .nil))) d1, .cons (.tup (.inl (.inl e3)) (.cons (.str _) (.cons rb.dp .nil))) d2, ?_⟩
      have ol := ok.1
      have g := Sm.cons (d := .tuple [.str y, dRun r]) (k := 399) (ds := ds) ?_ ?_ ?_ ?_ sm
      · have e : 399 + 1 + 400 * ys.length = 400 * (ys.length + 1) := by omega
        rw [e] at g
        exact g
      · show (true && (PyData.showableAll (r.map dPair) && true)) = true
        rw [h1]
        rfl
      · show max 0 (max (PyData.depthAll (r.map dPair) + 1) 0) + 1 ≤ 20
        omega
      · show (PyData.leavesShort 13 (.str y) && (PyData.leavesShortAll 13 (r.map dPair) && true)) = true
        rw [wv, h3]
        rfl
      · show y.cps.size + 1 + (PyData.weightAll (r.map dPair) + 1 + 0) ≤ 399
        have : y.cps.size ≤ 8 := wl
        omega
/-! ### what is refused -/
abbrev sRef : Stmt := top 33
def nameR : Str := "_law_refuses" ++ ".<locals>." ++ "<lambda>"
def nameL : Str := "law" ++ ".<locals>." ++ "<lambda>"
abbrev TT2 (PT0 PT1 : Addr) : List (Addr × Str) := [(PT0, nameR), (PT1, nameL)]
theorem tt2_first {PT0 PT1 : Addr} (hne : PT0 ≠ PT1) : ∀ r ∈ TT2 PT0 PT1, r.1 = PT0 → r.2 = nameR := fun r hr e => by
  rcases List.mem_cons.mp hr with rfl | hr
  · rfl
  · rw [List.mem_singleton.mp hr] at e
    exact absurd e.symm hne
theorem tt2_second {PT0 PT1 : Addr} (hne : PT0 ≠ PT1) : ∀ r ∈ TT2 PT0 PT1, r.1 = PT1 → r.2 = nameL := fun r hr e => by
  rcases List.mem_cons.mp hr with rfl | hr
  · exact absurd e hne
  · rw [List.mem_singleton.mp hr]
/-- what is no run -/
inductive OddR (p q : Addr) (H : Hp) : V → Option (List V) → PyData → Prop
  | non : OddR p q H .non none .none
  | three : OddR p q H (.int 3) none (.int 3)
  | run : OddR p q H (.str "run") none (.str "run")
  | dct {a : Addr} (h : Sf p q H a (.dK [])) : OddR p q H (.ref a) none (.dict [])
  | neg {a t : Addr} (h : Sf p q H a (.lst [.ref t])) (g : Sf p q H t (.tup [.int 0, .int (-1)])) : OddR p q H (.ref a) (some [.ref t]) (.list [.tuple [.int 0, .int (-1)]])
  | one {a t : Addr} (h : Sf p q H a (.lst [.ref t])) (g : Sf p q H t (.tup [.int 0])) : OddR p q H (.ref a) (some [.ref t]) (.list [.tuple [.int 0]])
  | two {a t : Addr} (h : Sf p q H a (.lst [.ref t, .non])) (g : Sf p q H t (.tup [.int 0, .int 0])) : OddR p q H (.ref a) (some [.ref t, .non]) (.list [.tuple [.int 0, .int 0], .none])
  | tru {a t : Addr} (h : Sf p q H a (.tup [.ref t])) (g : Sf p q H t (.tup [.int 0, .bl true])) : OddR p q H (.ref a) (some [.ref t]) (.tuple [.tuple [.int 0, .bool true]])
  | lis {a t : Addr} (h : Sf p q H a (.lst [.ref t])) (g : Sf p q H t (.lst [.int 0, .int 0])) : OddR p q H (.ref a) (some [.ref t]) (.list [.list [.int 0, .int 0]])
  | tri {a t : Addr} (h : Sf p q H a (.lst [.ref t])) (g : Sf p q H t (.tup [.int 0, .int 0, .int 0])) : OddR p q H (.ref a) (some [.ref t]) (.list [.tuple [.int 0, .int 0, .int 0]])
section
variable {p q : Addr} {H H' : Hp} {v : V} {o : Option (List V)} {d : PyData}
theorem OddR.mv (h : OddR p q H v o d) (b : Mv p q H H') : OddR p q H' v o d := by
  cases h with
  | non => exact .non
  | three => exact .three
  | run => exact .run
  | dct h => exact .dct (h.mv b)
  | neg h g => exact .neg (h.mv b) (g.mv b)
  | one h g => exact .one (h.mv b) (g.mv b)
  | two h g => exact .two (h.mv b) (g.mv b)
  | tru h g => exact .tru (h.mv b) (g.mv b)
  | lis h g => exact .lis (h.mv b) (g.mv b)
  | tri h g => exact .tri (h.mv b) (g.mv b)
theorem kd_int3 {xs : List V} (h : ∀ x ∈ xs, (∃ i, x = .int i) ∨ x = .bl true) : ∀ x ∈ xs, ∃ m, Kd H x m := fun x hx => by
  rcases h x hx with ⟨i, rfl⟩ | rfl
  · exact ⟨_, .int i⟩
  · exact ⟨_, .bl true⟩
theorem OddR.ls (h : OddR p q H v o d) : LsX H v o ∧ stepsOk H o = false := by
  have st : ∀ {t : Addr} {xs : List V}, H t = some (.tup xs) → xs.length ≤ 1000 → (∀ x ∈ xs, (∃ i, x = .int i) ∨ x = .bl true) → ∀ y ∈ [V.ref t], StV H y := fun e l k y hy => by
    rw [List.mem_singleton.mp hy]
    exact .tup e l (kd_int3 k)
  have no : ∀ {t : Addr} {xs : List V}, H t = some (.tup xs) → isStep H (.ref t) = false → stepsOk H (some [.ref t]) = false := fun e k => by
    show (isStep H (.ref _) && true) = false
    rw [k]
    rfl
  cases h with
  | non => exact ⟨.no .non (by decide), rfl⟩
  | three => exact ⟨.no (.int _) (by decide), rfl⟩
  | run => exact ⟨.no (.str _ (by decide +kernel)) (by decide), rfl⟩
  | dct h => exact ⟨.no (.dK h.e) (by decide), rfl⟩
  | neg h g => exact ⟨.lst h.e (by simp) (st g.e (by simp) (by simp)), no g.e (by rw [isStep_tup g.e]; rfl)⟩
  | one h g => exact ⟨.lst h.e (by simp) (st g.e (by simp) (by simp)), no g.e (by rw [isStep_tup g.e]; rfl)⟩
  | two h g =>
    refine ⟨.lst h.e (by simp) fun y hy => ?_, ?_⟩
    · rcases List.mem_cons.mp hy with rfl | hy
      · exact st g.e (by simp) (by simp) _ (List.mem_singleton.mpr rfl)
      · rw [List.mem_singleton.mp hy]
        exact .no .non (by decide)
    · show (isStep H (.ref _) && (isStep H .non && true)) = false
      rw [show isStep H .non = false from rfl, Bool.false_and, Bool.and_false]
  | tru h g => exact ⟨.tup h.e (by simp) (st g.e (by simp) (by simp)), no g.e (by rw [isStep_tup g.e]; rfl)⟩
  | lis h g =>
    refine ⟨.lst h.e (by simp) fun y hy => ?_, ?_⟩
    · rw [List.mem_singleton.mp hy]
      exact .no (.lst g.e) (by decide)
    · show (isStep H (.ref _) && true) = false
      rw [isStep_no (.lst g.e) (by decide)]
      rfl
  | tri h g => exact ⟨.lst h.e (by simp) (st g.e (by simp) (by simp)), no g.e (by rw [isStep_tup g.e]; rfl)⟩
theorem OddR.rp {K : PySem.W.Frag} (h : OddR p q H v o d) : Rp K H v d := by
  cases h with
  | non => exact .inl .non
  | three => exact .inl (.int _)
  | run => exact .inl (.str _)
  | dct h => exact .inr ⟨_, rfl, h.e, rfl⟩
  | neg h g => exact .inl (.lst (.inl (.inl h.e)) (.cons (.tup (.inl (.inl g.e)) (.cons (.int _) (.cons (.int _) .nil))) .nil))
  | one h g => exact .inl (.lst (.inl (.inl h.e)) (.cons (.tup (.inl (.inl g.e)) (.cons (.int _) .nil)) .nil))
  | two h g => exact .inl (.lst (.inl (.inl h.e)) (.cons (.tup (.inl (.inl g.e)) (.cons (.int _) (.cons (.int _) .nil))) (.cons .non .nil)))
  | tru h g => exact .inl (.tup (.inl (.inl h.e)) (.cons (.tup (.inl (.inl g.e)) (.cons (.int _) (.cons (.bl _) .nil))) .nil))
  | lis h g => exact .inl (.lst (.inl (.inl h.e)) (.cons (.lst (.inl (.inl g.e)) (.cons (.int _) (.cons (.int _) .nil))) .nil))
  | tri h g => exact .inl (.lst (.inl (.inl h.e)) (.cons (.tup (.inl (.inl g.e)) (.cons (.int _) (.cons (.int _) (.cons (.int _) .nil)))) .nil))
theorem OddR.ok (h : OddR p q H v o d) : okD d = true := by
  cases h <;> decide +kernel
end
theorem NAt.ext {H H' : Hp} {C x dx d : Addr} {kvs : List (Key × V)} (h : NAt H C x dx d kvs) (s : LamX.ExtN H H') : NAt H' C x dx d kvs := ⟨s _ _ h.ins (fun _ e => by cases e), s _ _ h.dk (fun _ e => by cases e)⟩
theorem NAt.mv {p q : Addr} {H H' : Hp} {C x dx d : Addr} {kvs : List (Key × V)} (h : NAt H C x dx d kvs) (hP : PoolAt H p q) (s : Mv p q H H') : NAt H' C x dx d kvs := by
  obtain ⟨ns, i, y, z, b, h1, h2, _⟩ := hP
  have n1 := h.ins
  have n2 := h.dk
  exact ⟨s _ _ (fun e => by rw [e, h1] at n1; cases n1) (fun e => by rw [e, h2] at n1; cases n1) (fun _ e => by cases e) h.ins, s _ _ (fun e => by rw [e, h1] at n2; cases n2) (fun e => by rw [e, h2] at n2; cases n2) (fun _ e => by cases e) h.dk⟩
structure RTxt (mg : Str → Option Value) : Prop where
  repr : mg "repr" = none
def spRef (C : Addr) (T : List (Addr × Str)) : Sp := fun vs H Q _ => ∃ (p q x dx d : Addr) (kvs : List (Key × V)), vs = [.ref p, .ref x] ∧ PoolAt H p q ∧ NAt H C x dx d kvs ∧ kvs.length < 1000 ∧ LamX.Tabs T H ∧
  ∀ H', Mv p q H H' → PoolAt H' p q → LamX.Tabs T H' → Q (.bl true) H'
/-- the def's own state -/
structure RfS (T : List (Addr × Str)) (p q x dx d C : Addr) (kvs : List (Key × V)) (H0 : Hp) (v : V) (dv : PyData) (R t : Addr) (H : Hp) : Prop where
  mv : Mv p q H0 H
  pool : PoolAt H p q
  tabs : LamX.Tabs T H
  n : NAt H C x dx d kvs
  o : OddN p q H v dv
  r : Sf p q H R (.lst [.ref t])
  t : Sf p q H t (.tup [.int 0, .int 0])
theorem RfS.step {T : List (Addr × Str)} {p q x dx d C : Addr} {kvs : List (Key × V)} {H0 : Hp} {v : V} {dv : PyData} {R t : Addr} {H H' : Hp} (h : RfS T p q x dx d C kvs H0 v dv R t H) (e : LamX.ExtN H H') (tb : LamX.Tabs T H') : RfS T p q x dx d C kvs H0 v dv R t H' :=
  ⟨h.mv.trans (.ext e), h.pool.ext e, tb, h.n.ext e, h.o.mv (.ext e), h.r.mv (.ext e), h.t.mv (.ext e)⟩
theorem RfS.same {T : List (Addr × Str)} {p q x dx d C : Addr} {kvs : List (Key × V)} {H0 : Hp} {v : V} {dv : PyData} {R t : Addr} {H H' : Hp} (h : RfS T p q x dx d C kvs H0 v dv R t H) (e : Same H H') : RfS T p q x dx d C kvs H0 v dv R t H' := h.step (.of e) (h.tabs.ext e)
theorem hasK_no {v : V} {kvs : List (Key × V)} (h : isName v = false) : hasK v kvs = false := by
  cases v with
  | str z =>
    show (nameOk z && _) = false
    rw [show nameOk z = false from h]
    rfl
  | _ => rfl
section
variable {P : Program} {w : World} {K : PySem.W.Frag} {mg : Str → Option Value} {base : Heap}
theorem scRef : FnScope ["pool", "table", "some", "odd", "run", "wrong"] ["pool", "table"] (defScope sRef) := ⟨rfl, rfl, rfl, by decide +kernel, rfl, by decide +kernel, by decide +kernel⟩
set_option maxHeartbeats 16000000 in
theorem ok_ref {f fB fD fS fI fN fW g C cC PT0 PT1 cH : Addr} {cs : List Addr} {fdB fdD fdS fdI fdN fdW : FuncData}
    {oc kV doc pm ct : Value} {od an : Option Addr} {osl : Array (Option Value)} {oc' kV' doc' pm' cdv' ct' : Value} {od' an' : Option Addr} {osl' : Array (Option Value)}
    (lk : K.lookup f = some ⟨oc, od, .func (PySem.W.fnOf "_law_refuses" "_law_refuses" (defArgs sRef) (defBody sRef) (defScope sRef) .none kV doc pm an (.ref cC) ct), osl⟩) (hcd : PySem.W.codeIn K (.ref cC) "_law_refuses" = true)
    (T : HTxt K mg cH cs) (TX : RTxt mg) (TB : LamX.TabB base mg cC PT0) (hne : PT0 ≠ PT1)
    (FB : Fun K "_law_bad_name" "_law_bad_name" sBad fB fdB) (bB : Binds K fdB ["pool"] []) (gB : mg "_law_bad_name" = some (.ref fB)) (GB : FnOk P w K mg base CX0 3 fB fdB ["pool"] spBad)
    (FD : Fun K "_law_draw" "_law_draw" sDraw fD fdD) (bD : Binds K fdD ["pool", "many"] []) (gD : mg "_law_draw" = some (.ref fD)) (GD : FnOk P w K mg base CX0 2 fD fdD ["pool", "many"] spDraw)
    (FS : Fun K "_law_set" "_law_set" sLSet fS fdS) (bS : Binds K fdS ["table", "name", "run"] []) (gS : mg "_law_set" = some (.ref fS)) (GS : FnOk P w K mg base (L2.CX P w) 4 fS fdS ["table", "name", "run"] (spNtSet C (cs.getD 1 0) (cs.getD 8 0)))
    (hsI : PySem.W.findIn K (.ref C) "__getitem__" = some (some (.ref fI))) (hfI : PySem.W.fnIn K fI = true) (hfnI : PySem.W.isFn K (.ref fI) = true) (GI : FnOk P w K mg base (L2.CX P w) 3 fI fdI ["self", "at"] (spNtItem C (cs.getD 1 0))) (bI : Binds K fdI ["self", "at"] [])
    (hsN : PySem.W.findIn K (.ref C) "__contains__" = some (some (.ref fN))) (hfnN : PySem.W.isFn K (.ref fN) = true) (GN : FnOk P w K mg base CX0 2 fN fdN ["self", "x"] (spNtIn C)) (bN : Binds K fdN ["self", "x"] [])
    (FW : Fun K "_law_which" "_law_which" sWhich fW fdW) (bW : Binds K fdW ["error"] []) (gW : mg "_law_which" = some (.ref fW))
    (gCt : mg "_law_caught" = some (.ref g)) (kCt : PySem.W.keepIn K (.ref g) = true)
    (lkC : K.lookup g = some ⟨oc', od', .func (PySem.W.fnOf "_law_caught" "_law_caught" (defArgs sCaught) (defBody sCaught) (defScope sCaught) .none kV' doc' pm' an' cdv' ct'), osl'⟩) (hcC : PySem.W.codeIn K cdv' "_law_caught" = true)
    (bCt : Binds K (PySem.W.fnOf "_law_caught" "_law_caught" (defArgs sCaught) (defBody sCaught) (defScope sCaught) .none kV' doc' pm' an' cdv' ct') ["call"] []) :
    FnG P w K mg base CX0 9 f (PySem.W.fnOf "_law_refuses" "_law_refuses" (defArgs sRef) (defBody sRef) (defScope sRef) .none kV doc pm an (.ref cC) ct) ["pool", "table"] (spRef C (TT2 PT0 PT1)) := by
  refine fnG_okC lk hcd scRef (fun vs H Q E h => ?_) (fun A outer s H vs Q E hg hr h => ?_)
  · obtain ⟨p, q, x, dx, d, kvs, rfl, _⟩ := h
    rfl
  · obtain ⟨p, q, x, dx, d, kvs, rfl, hP, hN, hlen, hT, k⟩ := h
    have hgX : (cxOf CX0 P w K mg base ["pool", "table", "some", "odd", "run", "wrong"] "_law_refuses" (defScope sRef) f (.ref cC) A outer s H E).nox.A.guards = some [] := hg
    refine ⟨_, (pss_cons (ps_asg (pe_tup (pa_cons (pe_call GB (hr.mono (by decide)) rfl gB FB.kp bB .nil pass0 (pa_cons (pv 0) pa_nil)) (pa_cons (pe_lst (pa_cons (pe_tup (pa_cons pe_int (pa_cons pe_int pa_nil))) pa_nil)) pa_nil))) (pg_tup (by rfl) (pgs_cons (pg_name (i := 3) scRef.nd rfl (.inr rfl)) (pgs_cons (pg_name (i := 4) scRef.nd rfl (.inr rfl)) pgs_nil))))
      (pss_cons (ps_if (PW.pt (pw_or (pt_cmpR (op_neD hr.units) (LamX.pe_lamcall (T := TT2 PT0 PT1) (a := "call") (k := 4) (Ng := ["call", "e"]) (x := "_law_caught") (by rfl) gCt kCt lkC hcC bCt scCaught rfl (.inl rfl) (gives_caught T FW bW gW hgX (hr.mono (by decide))) TB rfl (List.mem_cons_self ..) (tt2_first hne) (hr.mono (by decide)) (LamX.lamS_by (show LamX.lamSB (defScope sRef) _ = true by decide +kernel)) rfl (fun _ _ _ _ _ => rfl)
        (fun A outer s H E f c' hr2 => pe_call (E := E) GS (hr2.mono (by decide)) rfl gS FS.kp bS .nil (passes_call (takes_of rfl rfl rfl rfl) (fun _ _ _ _ h => h)) (pa_cons (pv 1) (pa_cons (pv 3) (pa_cons pe_non pa_nil))))) (pe_lst (pa_cons pe_str (pa_cons (pe_callB (id := "repr") (r := rReprD K) (call_reprD hgX hr.units) (by rfl) TX.repr (by decide +kernel) (pa_cons (pv 3) pa_nil)) pa_nil))) (nomark _)) (pw_or1 (pt_cmpR (op_inO GN hsN hfnN bN (hr.mono (by decide)) pass0) (pv 3) (pv 1) (by rfl))))) (pss_one (ps_ret pe_bl)) pss_nil)
      (pss_cons (ps_if (PW.pt (pw_or (pt_cmpR (op_neD hr.units) (LamX.pe_lamcall (T := TT2 PT0 PT1) (a := "call") (k := 4) (Ng := ["call", "e"]) (x := "_law_caught") (by rfl) gCt kCt lkC hcC bCt scCaught rfl (.inl rfl) (gives_caught T FW bW gW hgX (hr.mono (by decide))) TB rfl (List.mem_cons_self ..) (tt2_first hne) (hr.mono (by decide)) (LamX.lamS_by (show LamX.lamSB (defScope sRef) _ = true by decide +kernel)) rfl (fun _ _ _ _ _ => rfl)
        (fun A outer s H E f c' hr2 => pe_call (E := E) GS (hr2.mono (by decide)) rfl gS FS.kp bS .nil (passes_call (takes_of rfl rfl rfl rfl) (fun _ _ _ _ h => h)) (pa_cons (pv 1) (pa_cons (pv 3) (pa_cons (pv 4) pa_nil))))) (pe_lst (pa_cons pe_str (pa_cons (pe_callB (id := "repr") (r := rReprD K) (call_reprD hgX hr.units) (by rfl) TX.repr (by decide +kernel) (pa_cons (pv 3) pa_nil)) pa_nil))) (nomark _)) (pw_or1 (pt_cmpR (op_inO GN hsN hfnN bN (hr.mono (by decide)) pass0) (pv 3) (pv 1) (by rfl))))) (pss_one (ps_ret pe_bl)) pss_nil)
      (pss_cons (ps_if (pt_cmpR (op_neD hr.units) (LamX.pe_lamcall (T := TT2 PT0 PT1) (a := "call") (k := 4) (Ng := ["call", "e"]) (x := "_law_caught") (by rfl) gCt kCt lkC hcC bCt scCaught rfl (.inl rfl) (gives_caught T FW bW gW hgX (hr.mono (by decide))) TB rfl (List.mem_cons_self ..) (tt2_first hne) (hr.mono (by decide)) (LamX.lamS_by (show LamX.lamSB (defScope sRef) _ = true by decide +kernel)) rfl (fun _ _ _ _ _ => rfl)
        (fun A outer s H E f c' hr2 => pe_ixO (E := E) GI hsI hfI hfnI bI (hr2.mono (by decide)) (passes_call (takes_of rfl rfl rfl rfl) (fun _ _ _ _ h => h)) (pv 1) (pv 3) (fun _ _ => rfl))) (pe_lst (pa_cons pe_str (pa_cons (pe_callB (id := "repr") (r := rReprD K) (call_reprD hgX hr.units) (by rfl) TX.repr (by decide +kernel) (pa_cons (pv 3) pa_nil)) pa_nil))) (nomark _)) (pss_one (ps_ret pe_bl)) pss_nil)
      (pss_cons (ps_set (i := 2) scRef.nd rfl (.inl rfl) (pe_lst (pa_cons pe_non (pa_cons pe_int (pa_cons pe_str (pa_cons pe_dnewK (pa_cons (pe_lst (pa_cons (pe_tup (pa_cons pe_int (pa_cons (pe_un un_neg pe_int) pa_nil))) pa_nil)) (pa_cons (pe_lst (pa_cons (pe_tup (pa_cons pe_int pa_nil)) pa_nil)) (pa_cons (pe_lst (pa_cons (pe_tup (pa_cons pe_int (pa_cons pe_int pa_nil))) (pa_cons pe_non pa_nil))) (pa_cons (pe_tup (pa_cons (pe_tup (pa_cons pe_int (pa_cons pe_bl pa_nil))) pa_nil)) (pa_cons (pe_lst (pa_cons (pe_lst (pa_cons pe_int (pa_cons pe_int pa_nil))) pa_nil)) (pa_cons (pe_lst (pa_cons (pe_tup (pa_cons pe_int (pa_cons pe_int (pa_cons pe_int pa_nil)))) pa_nil)) pa_nil))))))))))))
      (pss_cons (ps_set (i := 5) scRef.nd rfl (.inr rfl) (pe_ix ix_list (pv 2) (pe_call GD (hr.mono (by decide)) rfl gD FD.kp bD .nil pass0 (pa_cons (pv 0) (pa_cons pe_int pa_nil))) (fun _ _ => rfl)))
      (pss_one (ps_ret (pe_cmpR (op_eqD hr.units) (LamX.pe_lamcall (T := TT2 PT0 PT1) (a := "call") (k := 4) (Ng := ["call", "e"]) (x := "_law_caught") (by rfl) gCt kCt lkC hcC bCt scCaught rfl (.inl rfl) (gives_caught T FW bW gW hgX (hr.mono (by decide))) TB rfl (List.mem_cons_self ..) (tt2_first hne) (hr.mono (by decide)) (LamX.lamS_by (show LamX.lamSB (defScope sRef) _ = true by decide +kernel)) rfl (fun _ _ _ _ _ => rfl)
        (fun A outer s H E f c' hr2 => pe_call (E := E) GS (hr2.mono (by decide)) rfl gS FS.kp bS .nil (passes_call (takes_of rfl rfl rfl rfl) (fun _ _ _ _ h => h)) (pa_cons (pv 1) (pa_cons pe_str (pa_cons (pv 5) pa_nil))))) (pe_lst (pa_cons pe_str (pa_cons (pe_callB (id := "repr") (r := rReprD K) (call_reprD hgX hr.units) (by rfl) TX.repr (by decide +kernel) (pa_cons (pv 5) pa_nil)) pa_nil))) (nomark _)))))))))), ?_⟩
    -- odd, run
    refine ⟨_, rfl, p, q, rfl, hP, fun H1 v dv b1 P1 o1 => ⟨(by show 2 ≤ sizeLine; decide), fun t ht => ?_⟩⟩
    have m1 : Mv p q H H1 := .but b1
    have N1 := hN.mv hP m1
    have T1 := tabs_but hP hT b1
    have st := Same.new (o := .tup [.int 0, .int 0]) ht
    have ft : Sf p q _ t (.tup [.int 0, .int 0]) := Sf.new P1 ht
    have P2 := P1.same st
    have m2 := m1.trans (.same st)
    have o2 := o1.mv (.same st)
    have N2 := N1.same st
    have T2 := T1.ext st
    clear hP hT hN b1 m1 P1 o1 N1 T1
    generalize upd H1 t (.tup [.int 0, .int 0]) = H2 at *
    refine ⟨(by show 1 ≤ sizeLine; decide), fun R hR => ?_⟩
    have sR := Same.new (o := .lst [.ref t]) hR
    have fR : Sf p q _ R (.lst [.ref t]) := Sf.new P2 hR
    have S3 : RfS (TT2 PT0 PT1) p q x dx d C kvs H v dv R t (upd H2 R (.lst [.ref t])) := ⟨m2.trans (.same sR), P2.same sR, T2.ext sR, N2.same sR, o2.mv (.same sR), fR, ft.same sR⟩
    clear m2 o2 N2 T2 P2 ft fR sR st ht
    generalize upd H2 R (.lst [.ref t]) = H3 at *
    refine ⟨(by show 2 ≤ sizeLine; decide), fun u hu => ?_⟩
    have su := Same.new (o := .tup [v, .ref R]) hu
    have S4 := S3.same su
    refine ⟨u, _, rfl, .inl (.inl upd_same), rfl, _, _, rfl, _, _, rfl, rfl, ?_⟩
    clear S3 su hR
    generalize upd H3 u (.tup [v, .ref R]) = H4 at *
    clear hu
    obtain ⟨n, hk⟩ := S4.o.kd
    clear hk
    have no := S4.o.no
    refine ⟨S4.tabs, fun Hx ex tx E1 hE1 => ?_⟩
    have S := S4.step ex tx
    clear S4 ex tx
    obtain ⟨k2, hk2⟩ := S.o.kd
    refine ⟨_, rfl, _, rfl, x, dx, d, kvs, v, k2, .non, none, rfl, S.n, hk2, .no .non (by decide), hlen, fun _ dd H3 s3 e3 => hE1 _ _ _ ⟨1, dd, v, dv, by decide, rfl, rfl, e3, (S.same s3).o.rp, S.o.ok, fun H4' r s4 e4 => ?_⟩, fun z => ?_, fun _ _ _ z => ?_⟩
    rotate_left
    · rw [no] at z
      cases z
    · rw [no] at z
      cases z
    have s5 := s3.trans s4
    have S5 := S.same s5
    clear S hE1 s3 e3 s4 s5 hk2
    refine ⟨_, rfl, v, dv, rfl, S5.o.rp, S5.o.ok, (by show 2 ≤ sizeLine; decide), fun l hl => ?_⟩
    have sl := Same.new (o := .lst [.str "name", .str dv.shown]) hl
    have okz := okD_strOk S5.o.ok
    have S6 := S5.same sl
    refine ⟨_, _, dp_two (sl _ _ e4), dp_two upd_same, shaped_two okz, shaped_two okz, _, rfl, ifTwo ?_⟩
    clear S5 e4 okz sl
    generalize upd H4' l (.lst [.str "name", .str dv.shown]) = H_S6 at *
    clear hl
    obtain ⟨k3, hk3⟩ := S6.o.kd
    refine ⟨_, rfl, _, rfl, x, dx, _, rfl, S6.n.ins, x, dx, d, kvs, v, k3, rfl, S6.n, hk3, fun Hy sy => ⟨_, rfl, _, rfl, ?_⟩⟩
    have S7 := S6.same sy
    clear S6 sy hk3
    rw [hasK_no no]
    refine iteF ?_
    refine ⟨S7.tabs, fun Hx ex tx E1 hE1 => ?_⟩
    have S := S7.step ex tx
    clear S7 ex tx
    obtain ⟨k2, hk2⟩ := S.o.kd
    refine ⟨_, rfl, _, rfl, _, rfl, x, dx, d, kvs, v, k2, .ref R, some [.ref t], rfl, S.n, hk2, .lst S.r.e (by simp) (fun y hy => by rw [List.mem_singleton.mp hy]; exact .tup S.t.e (by simp) (kd_int3 (by simp))), hlen, fun _ dd H3 s3 e3 => hE1 _ _ _ ⟨1, dd, v, dv, by decide, rfl, rfl, e3, (S.same s3).o.rp, S.o.ok, fun H4' r s4 e4 => ?_⟩, fun z => ?_, fun _ _ _ z => ?_⟩
    rotate_left
    · rw [no] at z
      cases z
    · rw [no] at z
      cases z
    have s5 := s3.trans s4
    have S5 := S.same s5
    clear S hE1 s3 e3 s4 s5 hk2
    refine ⟨_, rfl, v, dv, rfl, S5.o.rp, S5.o.ok, (by show 2 ≤ sizeLine; decide), fun l hl => ?_⟩
    have sl := Same.new (o := .lst [.str "name", .str dv.shown]) hl
    have okz := okD_strOk S5.o.ok
    have S8 := S5.same sl
    refine ⟨_, _, dp_two (sl _ _ e4), dp_two upd_same, shaped_two okz, shaped_two okz, _, rfl, ifTwo ?_⟩
    clear S5 e4 okz sl
    generalize upd H4' l (.lst [.str "name", .str dv.shown]) = H_S8 at *
    clear hl
    obtain ⟨k3, hk3⟩ := S8.o.kd
    refine ⟨_, rfl, _, rfl, x, dx, _, rfl, S8.n.ins, x, dx, d, kvs, v, k3, rfl, S8.n, hk3, fun Hy sy => ⟨_, rfl, _, rfl, ?_⟩⟩
    have S9 := S8.same sy
    clear S8 sy hk3
    rw [hasK_no no]
    refine iteF ?_
    refine ⟨S9.tabs, fun Hx ex tx E1 hE1 => ?_⟩
    have S := S9.step ex tx
    clear S9 ex tx
    obtain ⟨k2, hk2⟩ := S.o.kd
    refine ⟨_, rfl, _, rfl, x, dx, _, rfl, S.n.ins, x, dx, d, kvs, v, k2, rfl, S.n, hk2, fun _ dd H3 s3 e3 => hE1 _ _ _ ⟨1, dd, v, dv, by decide, rfl, rfl, e3, (S.same s3).o.rp, S.o.ok, fun H4' r s4 e4 => ?_⟩, fun _ _ _ z => ?_⟩
    rotate_left
    · rw [no] at z
      cases z
    have s5 := s3.trans s4
    have S5 := S.same s5
    clear S hE1 s3 e3 s4 s5 hk2
    refine ⟨_, rfl, v, dv, rfl, S5.o.rp, S5.o.ok, (by show 2 ≤ sizeLine; decide), fun l hl => ?_⟩
    have sl := Same.new (o := .lst [.str "name", .str dv.shown]) hl
    have okz := okD_strOk S5.o.ok
    have S10 := S5.same sl
    refine ⟨_, _, dp_two (sl _ _ e4), dp_two upd_same, shaped_two okz, shaped_two okz, _, rfl, ifTwo ?_⟩
    clear S5 e4 okz sl
    generalize upd H4' l (.lst [.str "name", .str dv.shown]) = H_S10 at *
    clear hl
    have P0' := S10.pool
    refine fun d0 hd0 => ?_
    have sd0 := Same.new (o := .dK []) hd0
    have fd0 : Sf p q _ d0 (.dK []) := Sf.new P0' hd0
    have Pd0 := P0'.same sd0
    have Sd0 := (Same.refl H_S10).trans sd0
    generalize upd H_S10 d0 (.dK []) = G1 at *
    refine ⟨_, rfl, (by show 2 ≤ sizeLine; decide), fun t1 ht1 => ?_⟩
    have st1 := Same.new (o := .tup [.int 0, .int (-1)]) ht1
    have ft1 : Sf p q _ t1 (.tup [.int 0, .int (-1)]) := Sf.new Pd0 ht1
    have Pt1 := Pd0.same st1
    replace fd0 := fd0.same st1
    have St1 := Sd0.trans st1
    generalize upd G1 t1 (.tup [.int 0, .int (-1)]) = G2 at *
    refine ⟨(by show 1 ≤ sizeLine; decide), fun a1 ha1 => ?_⟩
    have sa1 := Same.new (o := .lst [.ref t1]) ha1
    have fa1 : Sf p q _ a1 (.lst [.ref t1]) := Sf.new Pt1 ha1
    have Pa1 := Pt1.same sa1
    replace fd0 := fd0.same sa1
    replace ft1 := ft1.same sa1
    have Sa1 := St1.trans sa1
    generalize upd G2 a1 (.lst [.ref t1]) = G3 at *
    refine ⟨(by show 1 ≤ sizeLine; decide), fun t2 ht2 => ?_⟩
    have st2 := Same.new (o := .tup [.int 0]) ht2
    have ft2 : Sf p q _ t2 (.tup [.int 0]) := Sf.new Pa1 ht2
    have Pt2 := Pa1.same st2
    replace fd0 := fd0.same st2
    replace ft1 := ft1.same st2
    replace fa1 := fa1.same st2
    have St2 := Sa1.trans st2
    generalize upd G3 t2 (.tup [.int 0]) = G4 at *
    refine ⟨(by show 1 ≤ sizeLine; decide), fun a2 ha2 => ?_⟩
    have sa2 := Same.new (o := .lst [.ref t2]) ha2
    have fa2 : Sf p q _ a2 (.lst [.ref t2]) := Sf.new Pt2 ha2
    have Pa2 := Pt2.same sa2
    replace fd0 := fd0.same sa2
    replace ft1 := ft1.same sa2
    replace fa1 := fa1.same sa2
    replace ft2 := ft2.same sa2
    have Sa2 := St2.trans sa2
    generalize upd G4 a2 (.lst [.ref t2]) = G5 at *
    refine ⟨(by show 2 ≤ sizeLine; decide), fun t3 ht3 => ?_⟩
    have st3 := Same.new (o := .tup [.int 0, .int 0]) ht3
    have ft3 : Sf p q _ t3 (.tup [.int 0, .int 0]) := Sf.new Pa2 ht3
    have Pt3 := Pa2.same st3
    replace fd0 := fd0.same st3
    replace ft1 := ft1.same st3
    replace fa1 := fa1.same st3
    replace ft2 := ft2.same st3
    replace fa2 := fa2.same st3
    have St3 := Sa2.trans st3
    generalize upd G5 t3 (.tup [.int 0, .int 0]) = G6 at *
    refine ⟨(by show 2 ≤ sizeLine; decide), fun a3 ha3 => ?_⟩
    have sa3 := Same.new (o := .lst [.ref t3, .non]) ha3
    have fa3 : Sf p q _ a3 (.lst [.ref t3, .non]) := Sf.new Pt3 ha3
    have Pa3 := Pt3.same sa3
    replace fd0 := fd0.same sa3
    replace ft1 := ft1.same sa3
    replace fa1 := fa1.same sa3
    replace ft2 := ft2.same sa3
    replace fa2 := fa2.same sa3
    replace ft3 := ft3.same sa3
    have Sa3 := St3.trans sa3
    generalize upd G6 a3 (.lst [.ref t3, .non]) = G7 at *
    refine ⟨(by show 2 ≤ sizeLine; decide), fun t4 ht4 => ?_⟩
    have st4 := Same.new (o := .tup [.int 0, .bl true]) ht4
    have ft4 : Sf p q _ t4 (.tup [.int 0, .bl true]) := Sf.new Pa3 ht4
    have Pt4 := Pa3.same st4
    replace fd0 := fd0.same st4
    replace ft1 := ft1.same st4
    replace fa1 := fa1.same st4
    replace ft2 := ft2.same st4
    replace fa2 := fa2.same st4
    replace ft3 := ft3.same st4
    replace fa3 := fa3.same st4
    have St4 := Sa3.trans st4
    generalize upd G7 t4 (.tup [.int 0, .bl true]) = G8 at *
    refine ⟨(by show 1 ≤ sizeLine; decide), fun a4 ha4 => ?_⟩
    have sa4 := Same.new (o := .tup [.ref t4]) ha4
    have fa4 : Sf p q _ a4 (.tup [.ref t4]) := Sf.new Pt4 ha4
    have Pa4 := Pt4.same sa4
    replace fd0 := fd0.same sa4
    replace ft1 := ft1.same sa4
    replace fa1 := fa1.same sa4
    replace ft2 := ft2.same sa4
    replace fa2 := fa2.same sa4
    replace ft3 := ft3.same sa4
    replace fa3 := fa3.same sa4
    replace ft4 := ft4.same sa4
    have Sa4 := St4.trans sa4
    generalize upd G8 a4 (.tup [.ref t4]) = G9 at *
    refine ⟨(by show 2 ≤ sizeLine; decide), fun t5 ht5 => ?_⟩
    have st5 := Same.new (o := .lst [.int 0, .int 0]) ht5
    have ft5 : Sf p q _ t5 (.lst [.int 0, .int 0]) := Sf.new Pa4 ht5
    have Pt5 := Pa4.same st5
    replace fd0 := fd0.same st5
    replace ft1 := ft1.same st5
    replace fa1 := fa1.same st5
    replace ft2 := ft2.same st5
    replace fa2 := fa2.same st5
    replace ft3 := ft3.same st5
    replace fa3 := fa3.same st5
    replace ft4 := ft4.same st5
    replace fa4 := fa4.same st5
    have St5 := Sa4.trans st5
    generalize upd G9 t5 (.lst [.int 0, .int 0]) = G10 at *
    refine ⟨(by show 1 ≤ sizeLine; decide), fun a5 ha5 => ?_⟩
    have sa5 := Same.new (o := .lst [.ref t5]) ha5
    have fa5 : Sf p q _ a5 (.lst [.ref t5]) := Sf.new Pt5 ha5
    have Pa5 := Pt5.same sa5
    replace fd0 := fd0.same sa5
    replace ft1 := ft1.same sa5
    replace fa1 := fa1.same sa5
    replace ft2 := ft2.same sa5
    replace fa2 := fa2.same sa5
    replace ft3 := ft3.same sa5
    replace fa3 := fa3.same sa5
    replace ft4 := ft4.same sa5
    replace fa4 := fa4.same sa5
    replace ft5 := ft5.same sa5
    have Sa5 := St5.trans sa5
    generalize upd G10 a5 (.lst [.ref t5]) = G11 at *
    refine ⟨(by show 3 ≤ sizeLine; decide), fun t6 ht6 => ?_⟩
    have st6 := Same.new (o := .tup [.int 0, .int 0, .int 0]) ht6
    have ft6 : Sf p q _ t6 (.tup [.int 0, .int 0, .int 0]) := Sf.new Pa5 ht6
    have Pt6 := Pa5.same st6
    replace fd0 := fd0.same st6
    replace ft1 := ft1.same st6
    replace fa1 := fa1.same st6
    replace ft2 := ft2.same st6
    replace fa2 := fa2.same st6
    replace ft3 := ft3.same st6
    replace fa3 := fa3.same st6
    replace ft4 := ft4.same st6
    replace fa4 := fa4.same st6
    replace ft5 := ft5.same st6
    replace fa5 := fa5.same st6
    have St6 := Sa5.trans st6
    generalize upd G11 t6 (.tup [.int 0, .int 0, .int 0]) = G12 at *
    refine ⟨(by show 1 ≤ sizeLine; decide), fun a6 ha6 => ?_⟩
    have sa6 := Same.new (o := .lst [.ref t6]) ha6
    have fa6 : Sf p q _ a6 (.lst [.ref t6]) := Sf.new Pt6 ha6
    have Pa6 := Pt6.same sa6
    replace fd0 := fd0.same sa6
    replace ft1 := ft1.same sa6
    replace fa1 := fa1.same sa6
    replace ft2 := ft2.same sa6
    replace fa2 := fa2.same sa6
    replace ft3 := ft3.same sa6
    replace fa3 := fa3.same sa6
    replace ft4 := ft4.same sa6
    replace fa4 := fa4.same sa6
    replace ft5 := ft5.same sa6
    replace fa5 := fa5.same sa6
    replace ft6 := ft6.same sa6
    have Sa6 := St6.trans sa6
    generalize upd G12 a6 (.lst [.ref t6]) = G13 at *
    refine ⟨(by show 10 ≤ sizeLine; decide), fun L hL => ?_⟩
    have sL := Same.new (o := .lst [.non, .int 3, .str "run", .ref d0, .ref a1, .ref a2, .ref a3, .ref a4, .ref a5, .ref a6]) hL
    have fL : Sf p q _ L (.lst [.non, .int 3, .str "run", .ref d0, .ref a1, .ref a2, .ref a3, .ref a4, .ref a5, .ref a6]) := Sf.new Pa6 hL
    have PL := Pa6.same sL
    replace fd0 := fd0.same sL
    replace ft1 := ft1.same sL
    replace fa1 := fa1.same sL
    replace ft2 := ft2.same sL
    replace fa2 := fa2.same sL
    replace ft3 := ft3.same sL
    replace fa3 := fa3.same sL
    replace ft4 := ft4.same sL
    replace fa4 := fa4.same sL
    replace ft5 := ft5.same sL
    replace fa5 := fa5.same sL
    replace ft6 := ft6.same sL
    replace fa6 := fa6.same sL
    have S11 := S10.same (Sa6.trans sL)
    clear sd0 st1 sa1 st2 sa2 st3 sa3 st4 sa4 st5 sa5 st6 sa6 Pd0 Pt1 Pa1 Pt2 Pa2 Pt3 Pa3 Pt4 Pa4 Pt5 Pa5 Pt6 Pa6 Sd0 St1 Sa1 St2 Sa2 St3 Sa3 St4 Sa4 St5 Sa5 St6 Sa6 sL S10 P0'
    generalize upd G13 L (.lst [.non, .int 3, .str "run", .ref d0, .ref a1, .ref a2, .ref a3, .ref a4, .ref a5, .ref a6]) = HL at *
    clear hL hd0 ht1 ha1 ht2 ha2 ht3 ha3 ht4 ha4 ht5 ha5 ht6 ha6
    refine ⟨_, rfl, _, rfl, p, q, 10, rfl, PL, (by decide), (by decide), fun H5 r b5 P5 r0 r9 => ?_⟩
    have T5 := tabs_but PL S11.tabs b5
    have S12 : RfS (TT2 PT0 PT1) p q x dx d C kvs H v dv R t H5 := ⟨S11.mv.trans (.but b5), P5, T5, S11.n.mv PL (.but b5), S11.o.mv (.but b5), S11.r.mv (.but b5), S11.t.mv (.but b5)⟩
    obtain ⟨j, rfl⟩ := Int.eq_ofNat_of_zero_le r0
    have key : ∃ v' o' d', ([.non, .int 3, .str "run", .ref d0, .ref a1, .ref a2, .ref a3, .ref a4, .ref a5, .ref a6] : List V)[j]? = some v' ∧ OddR p q H5 v' o' d' := by
      match j, r9 with
      | 0, _ => exact ⟨_, _, _, rfl, .non⟩
      | 1, _ => exact ⟨_, _, _, rfl, .three⟩
      | 2, _ => exact ⟨_, _, _, rfl, .run⟩
      | 3, _ => exact ⟨_, _, _, rfl, .dct (fd0.but b5)⟩
      | 4, _ => exact ⟨_, _, _, rfl, .neg (fa1.but b5) (ft1.but b5)⟩
      | 5, _ => exact ⟨_, _, _, rfl, .one (fa2.but b5) (ft2.but b5)⟩
      | 6, _ => exact ⟨_, _, _, rfl, .two (fa3.but b5) (ft3.but b5)⟩
      | 7, _ => exact ⟨_, _, _, rfl, .tru (fa4.but b5) (ft4.but b5)⟩
      | 8, _ => exact ⟨_, _, _, rfl, .lis (fa5.but b5) (ft5.but b5)⟩
      | 9, _ => exact ⟨_, _, _, rfl, .tri (fa6.but b5) (ft6.but b5)⟩
      | n + 10, h => exact absurd h (by omega)
    obtain ⟨wr, wo, wd, e1, e2⟩ := key
    have eL := fL.but b5
    clear fd0 ft1 fa1 ft2 fa2 ft3 fa3 ft4 fa4 ft5 fa5 ft6 fa6 fL S11 T5 P5 b5 PL
    refine ⟨L, _, _, wr, rfl, rfl, .inl (.inl eL.e), atI_nat e1, ?_⟩
    clear eL e1 r9 r0
    -- the last one
    refine ⟨S12.tabs, fun Hx ex tx E1 hE1 => ?_⟩
    have S := S12.step ex tx
    have e3 := e2.mv (.ext ex)
    have good : isName (.str "good") = true := by decide +kernel
    refine ⟨_, rfl, _, rfl, x, dx, d, kvs, .str "good", "str", wr, wo, rfl, S.n, .str _ (by decide +kernel), e3.ls.1, hlen, fun z => ?_, fun _ _ dd H3 s3 ed => hE1 _ _ _ ⟨8, dd, wr, wd, by decide, rfl, rfl, ed, rp_same e3.rp s3, e3.ok, fun H4' r s4 e4 => ?_⟩, fun _ _ _ _ _ z => ?_⟩
    · rw [good] at z
      cases z
    · have s5 := s3.trans s4
      have S5 := S.same s5
      have e5 := e3.mv (.same s5)
      refine ⟨_, rfl, wr, wd, rfl, e5.rp, e5.ok, (by show 2 ≤ sizeLine; decide), fun l hl => ?_⟩
      have sl := Same.new (o := .lst [.str "step", .str wd.shown]) hl
      have okz := okD_strOk e5.ok
      have S6 := S5.same sl
      refine ⟨_, _, dp_two (sl _ _ e4), dp_two upd_same, shaped_two okz, shaped_two okz, ?_⟩
      show Q (.bl (PyData.eqv (.list [.str "step", .str wd.shown]) (.list [.str "step", .str wd.shown]))) _
      rw [eqv_two]
      exact k _ S6.mv S6.pool S6.tabs
    · rw [e3.ls.2] at z
      cases z
end
theorem pss_join {X : Cx} {st : Stmt} {rest : List Stmt} {t u : TS} (h1 : PS X st t) (h2 : PSs X rest u) : PSs X (st :: rest) (fun D σ H => ∃ J : L2.St → Hp → Prop, t { D with nx := J } σ H ∧ ∀ σ' H', J σ' H' → u D σ' H') := by
  refine ⟨fun pins s σ H D I h => ?_⟩
  obtain ⟨J, h, hJ⟩ := h
  refine wpAny_execs_cons (thn (h1.run pins s σ H { D with nx := J } I h) fun f s1 q => ?_)
  cases f with
  | next =>
    obtain ⟨σ', H', I', q⟩ := q
    exact h2.run pins s1 σ' H' D I' (hJ _ _ q)
  | ret v => exact q
  | brk => exact q
  | cont => exact q
abbrev tJoin (t u : TS) : TS := fun D σ H => ∃ J : L2.St → Hp → Prop, t { D with nx := J } σ H ∧ ∀ σ' H', J σ' H' → u D σ' H'
theorem pss_joinT {X : Cx} {st : Stmt} {rest : List Stmt} {t u : TS} (h1 : PS X st t) (h2 : PSs X rest u) : PSs X (st :: rest) (tJoin t u) := pss_join h1 h2
abbrev sLaw : Stmt := top 34
def spLaw (K : PySem.W.Frag) (PT0 PT1 : Addr) : Sp := fun vs H Q _ => ∃ (a : Addr) (ns : List Int), vs = [.ref a] ∧ SqL K H a (ns.map V.int) ∧ ns.length ≤ 63 ∧ H PT0 = some (.tbl #[]) ∧ H PT1 = some (.tbl #[]) ∧ ∀ H', Q (.bl true) H'
/-- the loop's own state -/
structure LS (T : List (Addr × Str)) (p q C x dx d e W y dy d2 z2 : Addr) (kvs kv2 : List (Key × V)) (zs : List Str) (H : Hp) : Prop where
  pool : PoolAt H p q
  tabs : LamX.Tabs T H
  n : NAt H C x dx d kvs
  due : Sf p q H e (.dK kv2)
  w : Sf p q H W (.lst (zs.map V.str))
  o : NAt H C y dy d2 [(.inr "zz", .ref z2)]
  r : RunAt H (.ref z2) [(1, 2)]
  wd : ∀ z ∈ zs, z ∈ wordsW
  de : d ≠ e
  dd : d ≠ d2
  ed : e ≠ d2
section
variable {T : List (Addr × Str)} {p q C x dx d e W y dy d2 z2 : Addr} {kvs kv2 : List (Key × V)} {zs : List Str} {H H' : Hp}
theorem LS.mv (h : LS T p q C x dx d e W y dy d2 z2 kvs kv2 zs H) (m : Mv p q H H') (P : PoolAt H' p q) (t : LamX.Tabs T H') : LS T p q C x dx d e W y dy d2 z2 kvs kv2 zs H' :=
  ⟨P, t, h.n.mv h.pool m, h.due.mv m, h.w.mv m, h.o.mv h.pool m, h.r.ts (.mv h.pool m), h.wd, h.de, h.dd, h.ed⟩
theorem LS.step (h : LS T p q C x dx d e W y dy d2 z2 kvs kv2 zs H) (m : LamX.ExtN H H') (t : LamX.Tabs T H') : LS T p q C x dx d e W y dy d2 z2 kvs kv2 zs H' := h.mv (.ext m) (h.pool.ext m) t
theorem LS.same (h : LS T p q C x dx d e W y dy d2 z2 kvs kv2 zs H) (m : Same H H') : LS T p q C x dx d e W y dy d2 z2 kvs kv2 zs H' := h.step (.of m) (h.tabs.ext m)
theorem LS.but (h : LS T p q C x dx d e W y dy d2 z2 kvs kv2 zs H) (m : But p q H H') (P : PoolAt H' p q) : LS T p q C x dx d e W y dy d2 z2 kvs kv2 zs H' := h.mv (.but m) P (tabs_but h.pool h.tabs m)
theorem tabs_upd {o o' : HO} {a : Addr} (t : LamX.Tabs T H) (f : H a = some o) (n : (∀ ps, o ≠ .tbl ps) ∧ (∀ g, o ≠ .ext g)) : LamX.Tabs T (upd H a o') := by
  intro r hr
  obtain ⟨ps, e1, e2, e3⟩ := t r hr
  have far : ∀ c u, H c = some u → u ≠ o → upd H a o' c = some u := fun c u e k => by
    rw [upd_ne (fun z => k (by rw [z, f] at e; exact (Option.some.inj e).symm))]
    exact e
  refine ⟨ps, far _ _ e1 (fun z => n.1 _ z.symm), e2, fun pos cv hc => ?_⟩
  obtain ⟨c, e4, e5⟩ := e3 pos cv hc
  exact ⟨c, e4, far _ _ e5 (fun z => by unfold LamX.CodeO at z; exact n.2 _ z.symm)⟩
theorem upd_far {a b : Addr} {o u o' : HO} (e : H b = some u) (f : H a = some o) (n : u ≠ o) : upd H a o' b = some u := by
  rw [upd_ne (fun z => n (by rw [z, f] at e; exact (Option.some.inj e).symm))]
  exact e
theorem pool_upd {a : Addr} {o' : HO} (h : PoolAt H p q) (n1 : a ≠ p) (n2 : a ≠ q) : PoolAt (upd H a o') p q := by
  obtain ⟨ns, i, y, z, b, h1, h2, h3⟩ := h
  exact ⟨ns, i, y, z, b, by rw [upd_ne n1.symm]; exact h1, by rw [upd_ne n2.symm]; exact h2, h3⟩
theorem dk_ne {b : Addr} (h : PoolAt H p q) {kvs : List (Key × V)} (e : H b = some (.dK kvs)) : b ≠ p ∧ b ≠ q := by
  obtain ⟨ns, i, y, z, w, h1, h2, _⟩ := h
  exact ⟨fun r => by (rw [r, h1] at e; cases e), fun r => by (rw [r, h2] at e; cases e)⟩
theorem LS.app (h : LS T p q C x dx d e W y dy d2 z2 kvs kv2 zs H) {z : Str} (hz : z ∈ wordsW) : LS T p q C x dx d e W y dy d2 z2 kvs kv2 (zs ++ [z]) (upd H W (.lst (zs.map V.str ++ [.str z]))) := by
  have f := h.w.e
  refine ⟨pool_upd h.pool h.w.np h.w.nq, tabs_upd h.tabs f ⟨fun _ e => by (cases e), fun _ e => by (cases e)⟩, ⟨upd_far h.n.ins f (fun e => by cases e), upd_far h.n.dk f (fun e => by cases e)⟩, ⟨upd_far h.due.e f (fun e => by cases e), h.due.np, h.due.nq⟩, ?_, ⟨upd_far h.o.ins f (fun e => by cases e), upd_far h.o.dk f (fun e => by cases e)⟩, h.r.ts (.upd f (fun _ e => by cases e)), ?_, h.de, h.dd, h.ed⟩
  · rw [List.map_append]
    exact ⟨upd_same, h.w.np, h.w.nq⟩
  · intro y hy
    rcases List.mem_append.mp hy with hy | hy
    · exact h.wd y hy
    · rw [List.mem_singleton.mp hy]
      exact hz
theorem LS.putd (h : LS T p q C x dx d e W y dy d2 z2 kvs kv2 zs H) (k3 : List (Key × V)) : LS T p q C x dx d e W y dy d2 z2 k3 kv2 zs (upd H d (.dK k3)) := by
  have f := h.n.dk
  obtain ⟨n1, n2⟩ := dk_ne h.pool f
  exact ⟨pool_upd h.pool n1 n2, tabs_upd h.tabs f ⟨fun _ e => by (cases e), fun _ e => by (cases e)⟩, ⟨upd_far h.n.ins f (fun e => by cases e), upd_same⟩, ⟨(upd_ne h.de.symm).trans h.due.e, h.due.np, h.due.nq⟩, ⟨upd_far h.w.e f (fun e => by cases e), h.w.np, h.w.nq⟩, ⟨upd_far h.o.ins f (fun e => by cases e), (upd_ne h.dd.symm).trans h.o.dk⟩, h.r.ts (.upd f (fun _ e => by cases e)), h.wd, h.de, h.dd, h.ed⟩
theorem LS.pute (h : LS T p q C x dx d e W y dy d2 z2 kvs kv2 zs H) (k3 : List (Key × V)) : LS T p q C x dx d e W y dy d2 z2 kvs k3 zs (upd H e (.dK k3)) := by
  have f := h.due.e
  exact ⟨pool_upd h.pool h.due.np h.due.nq, tabs_upd h.tabs f ⟨fun _ e => by (cases e), fun _ e => by (cases e)⟩, ⟨upd_far h.n.ins f (fun e => by cases e), (upd_ne h.de).trans h.n.dk⟩, ⟨upd_same, h.due.np, h.due.nq⟩, ⟨upd_far h.w.e f (fun e => by cases e), h.w.np, h.w.nq⟩, ⟨upd_far h.o.ins f (fun e => by cases e), (upd_ne h.ed.symm).trans h.o.dk⟩, h.r.ts (.upd f (fun _ e => by cases e)), h.wd, h.de, h.dd, h.ed⟩
theorem LS.putl (h : LS T p q C x dx d e W y dy d2 z2 kvs kv2 zs H) {a : Addr} {xs : List V} (o' : HO) (f : Sf p q H a (.lst xs)) (n : a ≠ W) : LS T p q C x dx d e W y dy d2 z2 kvs kv2 zs (upd H a o') :=
  ⟨pool_upd h.pool f.np f.nq, tabs_upd h.tabs f.e ⟨fun _ e => by (cases e), fun _ e => by (cases e)⟩, ⟨upd_far h.n.ins f.e (fun e => by cases e), upd_far h.n.dk f.e (fun e => by cases e)⟩, ⟨upd_far h.due.e f.e (fun e => by cases e), h.due.np, h.due.nq⟩, ⟨(upd_ne n.symm).trans h.w.e, h.w.np, h.w.nq⟩, ⟨upd_far h.o.ins f.e (fun e => by cases e), upd_far h.o.dk f.e (fun e => by cases e)⟩, h.r.ts (.upd f.e (fun _ e => by cases e)), h.wd, h.de, h.dd, h.ed⟩
end
theorem new_notes {H : Hp} {C x dx d : Addr} (nx : H x = none) (ndx : H dx = none) (nex : dx ≠ x) (nd : (upd (upd H dx (.own x)) x (.ins C dx [])) d = none) :
    Same H (upd (upd (upd (upd H dx (.own x)) x (.ins C dx [])) d (.dK [])) x (.ins C dx [("_noted", .ref d)])) ∧ NAt (upd (upd (upd (upd H dx (.own x)) x (.ins C dx [])) d (.dK [])) x (.ins C dx [("_noted", .ref d)])) C x dx d [] ∧ H d = none := by
  have e1 : d ≠ x := fun z => by rw [z, upd_same] at nd; cases nd
  have e2 : d ≠ dx := fun z => by rw [z, upd_ne nex, upd_same] at nd; cases nd
  have e3 : H d = none := by rwa [upd_ne e1, upd_ne e2] at nd
  refine ⟨fun b o e => ?_, ⟨upd_same, ?_⟩, e3⟩
  · rw [upd_ne (ne_of_none e nx), upd_ne (ne_of_none e e3), upd_ne (ne_of_none e nx), upd_ne (ne_of_none e ndx)]
    exact e
  · rw [upd_ne e1, upd_same]
theorem ifNe {A B : Prop} {s t : Str} (h : s = t) (hb : B) : if (!decide (V.str s = V.str t)) = true then A else B := by
  rw [h, decide_eq_true rfl]
  exact hb
theorem steps_of {H : Hp} {its : List V} {rr : Run} (h : Paired (PairAt H) its rr) (ok : ∀ ab ∈ rr, PairOk ab) : (∀ y ∈ its, StV H y) ∧ its.all (isStep H) = true := by
  induction h with
  | nil => exact ⟨fun _ h => (nomatch h), rfl⟩
  | @cons v ab _ _ a _ ih =>
    obtain ⟨i1, i2⟩ := ih fun x hx => ok x (List.mem_cons_of_mem _ hx)
    obtain ⟨t, rfl, e⟩ := a
    have o := ok ab (List.mem_cons_self ..)
    refine ⟨fun y hy => ?_, ?_⟩
    · rcases List.mem_cons.mp hy with rfl | hy
      · exact .tup e (by simp) (kd_int3 (by simp))
      · exact i1 y hy
    · rw [List.all_cons, i2, isStep_tup e]
      show ((decide (0 ≤ ab.1) && decide (0 ≤ ab.2)) && true) = true
      rw [decide_eq_true o.1, decide_eq_true o.2.2.1]
      rfl
section
variable {P : Program} {w : World} {K : PySem.W.Frag} {mg : Str → Option Value} {base : Heap}
theorem scLaw : FnScope ["script", "pool", "other", "due", "words", "turn", "run", "wanted", "rows", "name", "table", "k", "word", "one"] ["script"] (defScope sLaw) := ⟨rfl, rfl, rfl, by decide +kernel, rfl, by decide +kernel, by decide +kernel⟩
set_option maxHeartbeats 16000000 in
theorem ok_law {f fB fD fWd fR fT fM fI fN fLn fL fW g C cC PT0 PT1 cH : Addr} {cs : List Addr} {fdB fdD fdWd fdR fdT fdM fdI fdN fdLn fdL fdW : FuncData}
    {oc kV doc pm ct : Value} {od an : Option Addr} {osl : Array (Option Value)} {oc' kV' doc' pm' cdv' ct' : Value} {od' an' : Option Addr} {osl' : Array (Option Value)}
    (lk : K.lookup f = some ⟨oc, od, .func (PySem.W.fnOf "law" "law" (defArgs sLaw) (defBody sLaw) (defScope sLaw) .none kV doc pm an (.ref cC) ct), osl⟩) (hcd : PySem.W.codeIn K (.ref cC) "law" = true)
    (T : HTxt K mg cH cs) (TX : RTxt mg) (TN : NTxt mg) (PT : PTxt mg) (MT : MTxt K mg) (S : NCls K mg C) (TB : LamX.TabB base mg cC PT1) (hne : PT0 ≠ PT1)
    (FB : Fun K "_law_begin" "_law_begin" sBegin fB fdB) (bB : Binds K fdB ["script"] []) (gB : mg "_law_begin" = some (.ref fB)) (GB : FnOk P w K mg base CX0 1 fB fdB ["script"] (spBegin K))
    (FD : Fun K "_law_draw" "_law_draw" sDraw fD fdD) (bD : Binds K fdD ["pool", "many"] []) (gD : mg "_law_draw" = some (.ref fD)) (GD : FnOk P w K mg base CX0 2 fD fdD ["pool", "many"] spDraw)
    (FWd : Fun K "_law_word" "_law_word" sWord fWd fdWd) (bWd : Binds K fdWd ["pool"] []) (gWd : mg "_law_word" = some (.ref fWd)) (GW : FnOk P w K mg base CX0 3 fWd fdWd ["pool"] spWord)
    (FRk : PySem.W.keepIn K (.ref fR) = true) (bR : Binds K fdR ["pool", "table"] []) (gR : mg "_law_refuses" = some (.ref fR)) (GR : FnG P w K mg base CX0 9 fR fdR ["pool", "table"] (spRef C (TT2 PT0 PT1)))
    (MH : Mk K C fT) (GT : FnOk P w K mg base CX0 1 fT fdT ["self"] (spNtInit C)) (bT : Binds K fdT ["self"] [])
    (hqM : PySem.W.noSeq K C = true) (hsM : PySem.W.findIn K (.ref C) "__setitem__" = some (some (.ref fM))) (hfnM : PySem.W.isFn K (.ref fM) = true) (GM : FnOk P w K mg base (L2.CX P w) 3 fM fdM ["self", "at", "worth"] (spNtSet C (cs.getD 1 0) (cs.getD 8 0))) (bM : Binds K fdM ["self", "at", "worth"] [])
    (hsI : PySem.W.findIn K (.ref C) "__getitem__" = some (some (.ref fI))) (hfI : PySem.W.fnIn K fI = true) (hfnI : PySem.W.isFn K (.ref fI) = true) (GI : FnOk P w K mg base (L2.CX P w) 3 fI fdI ["self", "at"] (spNtItem C (cs.getD 1 0))) (bI : Binds K fdI ["self", "at"] [])
    (hsN : PySem.W.findIn K (.ref C) "__contains__" = some (some (.ref fN))) (hfnN : PySem.W.isFn K (.ref fN) = true) (GN : FnOk P w K mg base CX0 2 fN fdN ["self", "x"] (spNtIn C)) (bN : Binds K fdN ["self", "x"] [])
    (hsLn : PySem.W.findIn K (.ref C) "__len__" = some (some (.ref fLn))) (hfnLn : PySem.W.isFn K (.ref fLn) = true) (GLn : FnOk P w K mg base CX0 1 fLn fdLn ["self"] (spNtLen C)) (bLn : Binds K fdLn ["self"] [])
    (ML : Meth K C "listed" fL) (GL : FnOk P w K mg base CX0 1 fL fdL ["self"] (spNtListed C)) (bL : Binds K fdL ["self"] [])
    (FW : Fun K "_law_which" "_law_which" sWhich fW fdW) (bW : Binds K fdW ["error"] []) (gW : mg "_law_which" = some (.ref fW))
    (gCt : mg "_law_caught" = some (.ref g)) (kCt : PySem.W.keepIn K (.ref g) = true)
    (lkC : K.lookup g = some ⟨oc', od', .func (PySem.W.fnOf "_law_caught" "_law_caught" (defArgs sCaught) (defBody sCaught) (defScope sCaught) .none kV' doc' pm' an' cdv' ct'), osl'⟩) (hcC : PySem.W.codeIn K cdv' "_law_caught" = true)
    (bCt : Binds K (PySem.W.fnOf "_law_caught" "_law_caught" (defArgs sCaught) (defBody sCaught) (defScope sCaught) .none kV' doc' pm' an' cdv' ct') ["call"] []) :
    FnG P w K mg base CX0 10 f (PySem.W.fnOf "law" "law" (defArgs sLaw) (defBody sLaw) (defScope sLaw) .none kV doc pm an (.ref cC) ct) ["script"] (spLaw K PT0 PT1) := by
  refine fnG_okC lk hcd scLaw (fun vs H Q E h => ?_) (fun A outer s H vs Q E hg hr h => ?_)
  · obtain ⟨a, ns, rfl, _⟩ := h
    rfl
  · obtain ⟨a, ns, rfl, hS, hlen, hT0, hT1, k⟩ := h
    have hgX : (cxOf CX0 P w K mg base ["script", "pool", "other", "due", "words", "turn", "run", "wanted", "rows", "name", "table", "k", "word", "one"] "law" (defScope sLaw) f (.ref cC) A outer s H E).nox.A.guards = some [] := hg
    refine ⟨_, (pss_cons (ps_set (i := 1) scLaw.nd rfl (.inr rfl) (pe_call GB (hr.mono (by decide)) rfl gB FB.kp bB .nil pass0 (pa_cons (pv 0) pa_nil)))
      (pss_cons (ps_asg (pe_tup (pa_cons (pe_make0 MH GT (hr.mono (by decide)) rfl S.g bT .nil pass0) (pa_cons (pe_make0 MH GT (hr.mono (by decide)) rfl S.g bT .nil pass0) (pa_cons pe_dnewK (pa_cons (pe_lst (pa_cons pe_str pa_nil)) pa_nil))))) (pg_tup (by rfl) (pgs_cons (pg_name (i := 10) scLaw.nd rfl (.inr rfl)) (pgs_cons (pg_name (i := 2) scLaw.nd rfl (.inl rfl)) (pgs_cons (pg_name (i := 3) scLaw.nd rfl (.inr rfl)) (pgs_cons (pg_name (i := 4) scLaw.nd rfl (.inl rfl)) pgs_nil))))))
      (pss_cons (ps_asg (pe_tup (pa_cons (pe_tup (pa_cons pe_int (pa_cons pe_int pa_nil))) pa_nil)) (pg_sub (pv 2) pe_str (set_own (C := C) GM hqM hsM hfnM bM (hr.mono (by decide)) passF)))
      (pss_cons (ps_for PassesOwn.never rfl (pi_range1 rfl PT.range (pa_cons pe_int pa_nil)) (pg_name (i := 5) scLaw.nd rfl (.inl rfl))
      (pss_joinT (ps_set (i := 9) scLaw.nd rfl (.inr rfl) (pe_ifExp (pt_cmpR op_eq (pe_call GD (hr.mono (by decide)) rfl gD FD.kp bD .nil pass0 (pa_cons (pv 1) (pa_cons pe_int pa_nil))) pe_int (nomark _)) (pe_ix ix_list (pv 4) (pe_call GD (hr.mono (by decide)) rfl gD FD.kp bD .nil pass0 (pa_cons (pv 1) (pa_cons (pe_callB call_len_seq (by rfl) PT.len PySem.boot_len (pa_cons (pv 4) pa_nil)) pa_nil))) (fun _ _ => rfl)) (pe_call GW (hr.mono (by decide)) rfl gWd FWd.kp bWd .nil pass0 (pa_cons (pv 1) pa_nil))))
        (pss_cons (ps_expr (pe_bm PySem.F.plainAttrs_list PySem.F.slot_list_append PySem.F.type_list_append mt_append (pv 4) (pa_cons (pv 9) pa_nil)))
        (pss_join (ps_if (pt_cmpR op_gt (pe_call GD (hr.mono (by decide)) rfl gD FD.kp bD .nil pass0 (pa_cons (pv 1) (pa_cons pe_int pa_nil))) pe_int (nomark _))
        (pss_cons (ps_setLc (i := 6) (own := [("k", 11)]) (g := gName 11) (by rfl) scLaw.nd rfl rfl (sw_true rfl rfl rfl (by decide +kernel)) (pi_range1 rfl PT.range (pa_cons (pe_call GD (hr.mono (by decide)) rfl gD FD.kp bD .nil pass0 (pa_cons (pv 1) (pa_cons pe_int pa_nil))) pa_nil)) (blkOk_by (own := [("k", 11)]) (N := ["script", "pool", "other", "due", "words", "turn", "run", "wanted", "rows", "name", "table", "k", "word", "one"]) (sc := defScope sLaw) (by decide +kernel)) (fun _ _ _ _ _ => pg_name (i := 11) scLaw.nd rfl (Or.inl rfl)) (fun _ _ _ _ _ => pts_nil) (fun _ _ _ _ _ => pe_tup (pa_cons (pe_call GD (hr.mono (by decide)) rfl gD FD.kp bD .nil pass0 (pa_cons (pv 1) (pa_cons pe_int pa_nil))) (pa_cons (pe_call GD (hr.mono (by decide)) rfl gD FD.kp bD .nil pass0 (pa_cons (pv 1) (pa_cons (pe_op op_pow pe_int pe_int) pa_nil))) pa_nil))))
        (pss_join (ps_asg (pe_ifExp (pt_cmpR op_eq (pe_call GD (hr.mono (by decide)) rfl gD FD.kp bD .nil pass0 (pa_cons (pv 1) (pa_cons pe_int pa_nil))) pe_int (nomark _)) (pv 6) (pe_callTy call_tupleX (by rfl) MT.tup (by decide +kernel) (pa_cons (pv 6) pa_nil))) (pg_sub (pv 10) (pv 9) (set_own (C := C) GM hqM hsM hfnM bM (hr.mono (by decide)) passF)))
        (pss_cons (ps_dput (hu_of hr) (pv 3) (pv 9) (pe_callTy call_tupleX (by rfl) MT.tup (by decide +kernel) (pa_cons (pv 6) pa_nil)) rfl)
        (pss_one (ps_expr (pe_bm PySem.F.plainAttrs_list PySem.F.slot_list_append PySem.F.type_list_append mt_append (pv 6) (pa_cons (pe_tup (pa_cons pe_int (pa_cons pe_int pa_nil))) pa_nil))))))) pss_nil)
        (pss_cons (ps_if (PW.pt (pw_or (pt_not (pt_val (pe_callGd GR hgX (hr.mono (by decide)) rfl gR FRk bR (pa_cons (pv 1) (pa_cons (pv 10) pa_nil))))) (pw_or1 (pt_cmpR op_ne (pe_callB (id := "repr") (r := rReprY K) (call_reprY hgX hr.units) (by rfl) TX.repr (by decide +kernel) (pa_cons (pe_callB (call_lenO GLn hsLn hfnLn bLn (hr.mono (by decide)) pass0) (by rfl) PT.len (by decide +kernel) (pa_cons (pv 10) pa_nil)) pa_nil)) (pe_callB (id := "repr") (r := rReprY K) (call_reprY hgX hr.units) (by rfl) TX.repr (by decide +kernel) (pa_cons (pe_callB call_lenD (by rfl) PT.len PySem.boot_len (pa_cons (pv 3) pa_nil)) pa_nil)) (nomark _))))) (pss_one (ps_ret pe_bl)) pss_nil)
        (pss_join (ps_set (i := 7) scLaw.nd rfl (.inl rfl) (pe_ifExp (pt_cmp (pc_din (hu_of hr) (pv 9) (pv 3))) pe_non (pe_lst (pa_cons pe_str (pa_cons (pe_callB (id := "repr") (r := rReprY K) (call_reprY hgX hr.units) (by rfl) TX.repr (by decide +kernel) (pa_cons (pv 9) pa_nil)) pa_nil)))))
        (pss_join (ps_if (PW.pt (pw_or (pt_cmpR op_ne (pe_callB (id := "repr") (r := rReprY K) (call_reprY hgX hr.units) (by rfl) TX.repr (by decide +kernel) (pa_cons (pe_cmpR (op_inO GN hsN hfnN bN (hr.mono (by decide)) pass0) (pv 9) (pv 10) (by rfl)) pa_nil)) (pe_callB (id := "repr") (r := rReprY K) (call_reprY hgX hr.units) (by rfl) TX.repr (by decide +kernel) (pa_cons (pe_cmp (pc_din (hu_of hr) (pv 9) (pv 3)) rfl) pa_nil)) (nomark _)) (pw_or1 (pt_cmpR (op_neD hr.units) (LamX.pe_lamcall (T := TT2 PT0 PT1) (a := "call") (k := 4) (Ng := ["call", "e"]) (x := "_law_caught") (by rfl) gCt kCt lkC hcC bCt scCaught rfl (.inl rfl) (gives_caught T FW bW gW hgX (hr.mono (by decide))) TB rfl (List.mem_cons_of_mem _ (List.mem_singleton.mpr rfl)) (tt2_second hne) (hr.mono (by decide)) (LamX.lamS_by (show LamX.lamSB (defScope sLaw) _ = true by decide +kernel)) rfl (fun _ _ _ _ _ => rfl)
        (fun A outer s H E f c' hr2 => pe_ixO (E := E) GI hsI hfI hfnI bI (hr2.mono (by decide)) (passes_call (takes_of rfl rfl rfl rfl) (fun _ _ _ _ h => h)) (pv 10) (pv 9) (fun _ _ => rfl))) (pv 7) (nomark _))))) (pss_one (ps_ret pe_bl)) pss_nil)
        (pss_join (ps_if (PW.pt (pw_and (pt_cmp (pc_din (hu_of hr) (pv 9) (pv 3))) (pw_and1 (pt_cmpR op_ne (pe_callB (id := "repr") (r := rReprY K) (call_reprY hgX hr.units) (by rfl) TX.repr (by decide +kernel) (pa_cons (pe_ixO GI hsI hfI hfnI bI (hr.mono (by decide)) passF (pv 10) (pv 9) (fun _ _ => rfl)) pa_nil)) (pe_callB (id := "repr") (r := rReprY K) (call_reprY hgX hr.units) (by rfl) TX.repr (by decide +kernel) (pa_cons (pe_dget (hu_of hr) (pv 3) (pv 9) (fun _ _ => rfl)) pa_nil)) (nomark _))))) (pss_one (ps_ret pe_bl)) pss_nil)
        (pss_cons (ps_setLc (i := 8) (own := [("one", 13)]) (g := gName 13) (by rfl) scLaw.nd rfl rfl (sw_true rfl rfl rfl (by decide +kernel)) (pi_list (pe_callB (cr_sortedS) (by rfl) TN.sorted (by decide +kernel) (pa_cons
          (pe_lock (pe_lc (own := [("word", 12)]) (g := gName 12) (by rfl) scLaw.nd (pi_keys (pv 3)) (blkOk_by (own := [("word", 12)]) (N := ["script", "pool", "other", "due", "words", "turn", "run", "wanted", "rows", "name", "table", "k", "word", "one"]) (sc := defScope sLaw) (by decide +kernel))
            (fun _ _ _ _ _ => pg_name (i := 12) scLaw.nd rfl (Or.inl rfl)) (fun _ _ _ _ _ => pts_nil)
            (fun _ _ _ _ _ => pe_callTy SkE.call_str_str (by rfl) MT.str (by decide +kernel) (pa_cons (pv 12) pa_nil)))) pa_nil)))
        (blkOk_by (own := [("one", 13)]) (N := ["script", "pool", "other", "due", "words", "turn", "run", "wanted", "rows", "name", "table", "k", "word", "one"]) (sc := defScope sLaw) (by decide +kernel)) (fun _ _ _ _ _ => pg_name (i := 13) scLaw.nd rfl (Or.inl rfl)) (fun _ _ _ _ _ => pts_nil)
        (fun _ _ _ _ _ => pe_tup (pa_cons (pv 13) (pa_cons (pe_dget (by exact hu_of hr) (pv 3) (pv 13) (fun _ _ => rfl)) pa_nil))))
        (pss_one (ps_if (pt_cmpR op_ne (pe_callB (id := "repr") (r := rReprY K) (call_reprY hgX hr.units) (by rfl) TX.repr (by decide +kernel) (pa_cons (pe_meth0 (pv 10) S.cl ML GL (hr.mono (by decide)) bL .nil pass0) pa_nil)) (pe_callB (id := "repr") (r := rReprY K) (call_reprY hgX hr.units) (by rfl) TX.repr (by decide +kernel) (pa_cons (pe_callTy call_tupleX (by rfl) MT.tup (by decide +kernel) (pa_cons (pv 8) pa_nil)) pa_nil)) (nomark _)) (pss_one (ps_ret pe_bl)) pss_nil)))))))))))
      (pss_one (ps_ret (pe_cmpR op_eq (pe_callB (id := "repr") (r := rReprY K) (call_reprY hgX hr.units) (by rfl) TX.repr (by decide +kernel) (pa_cons (pe_meth0 (pv 2) S.cl ML GL (hr.mono (by decide)) bL .nil pass0) pa_nil)) (pe_callB (id := "repr") (r := rReprY K) (call_reprY hgX hr.units) (by rfl) TX.repr (by decide +kernel) (pa_cons (pe_tup (pa_cons (pe_tup (pa_cons pe_str (pa_cons (pe_tup (pa_cons (pe_tup (pa_cons pe_int (pa_cons pe_int pa_nil))) pa_nil)) pa_nil))) pa_nil)) pa_nil)) (nomark _)))))))), ?_⟩
    refine ⟨_, rfl, a, ns, rfl, hS, hlen, fun H1 p q s1 p0 q0 hP => ?_⟩
    have T1 : LamX.Tabs (TT2 PT0 PT1) H1 := fun r hr => by
      rcases List.mem_cons.mp hr with rfl | hr
      · exact .nil (s1 _ _ hT0)
      · rw [List.mem_singleton.mp hr]
        exact .nil (s1 _ _ hT1)
    clear hS s1 hT0 hT1 p0 q0
    -- table, other, due, words
    refine fun x dx nx ndx nex => ⟨x, dx, rfl, upd_same, fun d nd => ⟨rfl, ?_⟩⟩
    obtain ⟨sa, Na, hd0⟩ := new_notes nx ndx nex nd
    generalize upd (upd (upd (upd H1 dx (.own x)) x (.ins C dx [])) d (.dK [])) x (.ins C dx [("_noted", .ref d)]) = H2 at sa Na ⊢
    clear nx ndx nex nd hd0
    refine fun y dy ny ndy ney => ⟨y, dy, rfl, upd_same, fun d2 nd => ⟨rfl, ?_⟩⟩
    obtain ⟨sb, Nb, hd0⟩ := new_notes ny ndy ney nd
    generalize upd (upd (upd (upd H2 dy (.own y)) y (.ins C dy [])) d2 (.dK [])) y (.ins C dy [("_noted", .ref d2)]) = H3 at sb Nb ⊢
    have dd := ne_of_none Na.dk hd0
    clear ny ndy ney nd hd0
    refine fun e he => ?_
    have Na3 := Na.same sb
    have de := ne_of_none Na3.dk he
    have ed := ne_of_none Nb.dk he
    have P3 := (hP.same sa).same sb
    have T3 := (T1.ext sa).ext sb
    have se := Same.new (o := .dK []) he
    have fe : Sf p q _ e (.dK []) := Sf.new P3 he
    have P4 := P3.same se
    have T4 := T3.ext se
    have Na4 := Na3.same se
    have Nb4 := Nb.same se
    clear Na Nb sa sb hP T1 Na3 P3 T3 se
    generalize upd H3 e (.dK []) = H4 at *
    clear he
    refine ⟨(by show 1 ≤ sizeLine; decide), fun W hW => ?_⟩
    have sW := Same.new (o := .lst [.str "a"]) hW
    have fW' : Sf p q _ W (.lst [.str "a"]) := Sf.new P4 hW
    have P5 := P4.same sW
    have T5 := T4.ext sW
    have Na5 := Na4.same sW
    have Nb5 := Nb4.same sW
    have fe5 := fe.same sW
    clear P4 T4 Na4 Nb4 fe sW
    generalize upd H4 W (.lst [.str "a"]) = H5 at *
    clear hW
    refine ⟨(by show 4 ≤ sizeLine; decide), fun tp htp => ?_⟩
    have st := Same.new (o := .tup [.ref x, .ref y, .ref e, .ref W]) htp
    refine ⟨tp, _, rfl, .inl (.inl upd_same), rfl, _, _, rfl, _, _, rfl, _, _, rfl, _, _, rfl, rfl, ?_⟩
    -- other['zz']
    refine ⟨(by show 2 ≤ sizeLine; decide), fun g' hg' => ?_⟩
    have sg := Same.new (o := .tup [.int 1, .int 2]) hg'
    have eg : (upd (upd H5 tp (.tup [.ref x, .ref y, .ref e, .ref W])) g' (.tup [.int 1, .int 2])) g' = _ := upd_same
    have s56 := st.trans sg
    generalize upd (upd H5 tp (.tup [.ref x, .ref y, .ref e, .ref W])) g' (.tup [.int 1, .int 2]) = H6 at *
    refine ⟨(by show 1 ≤ sizeLine; decide), fun z1 hz1 => ?_⟩
    have sz := Same.new (o := .tup [.ref g']) hz1
    have ez : (upd H6 z1 (.tup [.ref g'])) z1 = _ := upd_same
    have s57 := s56.trans sz
    have eg7 := sz _ _ eg
    generalize upd H6 z1 (.tup [.ref g']) = H7 at *
    clear hz1 hg' htp st sg s56 sz eg
    have stg : StV H7 (.ref g') := .tup eg7 (by simp) (kd_int3 (by simp))
    have okg : isStep H7 (.ref g') = true := by
      rw [isStep_tup eg7]
      rfl
    refine ⟨_, rfl, y, dy, _, rfl, (Nb5.same s57).ins, y, dy, d2, [], .str "zz", "str", .ref z1, some [.ref g'], rfl, Nb5.same s57, .str _ (by decide +kernel), .tup ez (by simp) (fun v hv => by rw [List.mem_singleton.mp hv]; exact stg), by decide, fun z => ?_, fun _ z => ?_, fun z ws hz _ hw _ H8 z2 s8 e8 => ?_⟩
    · rw [show isName (.str "zz") = true from by decide +kernel] at z
      cases z
    · rw [show stepsOk H7 (some [.ref g']) = (isStep H7 (.ref g') && true) from rfl, okg] at z
      cases z
    cases hz
    cases hw
    have s58 := s57.trans s8
    have eg8 := s8 _ _ eg7
    have Nb8 := Nb5.same s58
    have Na8 := Na5.same s58
    have P8 := P5.same s58
    have fe8 := fe5.same s58
    have fW8 := fW'.same s58
    have L0 : LS (TT2 PT0 PT1) p q C x dx d e W y dy d2 z2 [] [] ["a"] (upd H8 d2 (.dK (putK [] (.inr "zz") (.ref z2)))) := by
      obtain ⟨n1, n2⟩ := dk_ne P8 Nb8.dk
      exact ⟨pool_upd P8 n1 n2, tabs_upd (T5.ext s58) Nb8.dk ⟨fun _ e => by (cases e), fun _ e => by (cases e)⟩, ⟨upd_far Na8.ins Nb8.dk (fun e => by cases e), (upd_ne dd).trans Na8.dk⟩, ⟨(upd_ne ed.symm).trans fe8.e, fe8.np, fe8.nq⟩, ⟨upd_far fW8.e Nb8.dk (fun e => by cases e), fW8.np, fW8.nq⟩,
        ⟨upd_far Nb8.ins Nb8.dk (fun e => by cases e), upd_same⟩, ⟨z2, [.ref g'], rfl, upd_far e8 Nb8.dk (fun e => by cases e), .cons ⟨g', rfl, upd_far eg8 Nb8.dk (fun e => by cases e)⟩ .nil⟩, by decide +kernel, de, dd, ed.symm⟩
    clear s58 eg8 Nb8 Na8 P8 fe8 fW8 s8 e8 stg okg ez s57 eg7 Nb5 Na5 P5 T5 fe5 fW' de ed dd
    generalize upd H8 d2 (.dK (putK [] (.inr "zz") (.ref z2))) = H9 at *
    refine ⟨30, rfl, by decide, by decide, for_range (lo := 0) (n := 30) (fun i σ H' => ∃ kvs kv2 zs u5 u6 u7 u8 u9 u11 u12 u13, σ = [some (.ref a), some (.ref p), some (.ref y), some (.ref e), some (.ref W), u5, u6, u7, u8, u9, some (.ref x), u11, u12, u13] ∧
        LS (TT2 PT0 PT1) p q C x dx d e W y dy d2 z2 kvs kv2 zs H' ∧ Alike H' kvs kv2 ∧ kvs.length ≤ i ∧ zs.length = i + 1) ⟨[], [], ["a"], _, _, _, _, _, _, _, _, rfl, L0, .nil, Nat.le_refl _, rfl⟩ ?_ ?_⟩
    · clear L0 H9 H8
      rintro i σ H1 hi ⟨kvs, kv2, zs, u5, u6, u7, u8, u9, u11, u12, u13, rfl, L, al, kl, zl⟩
      -- name
      refine ⟨fun σ' H' => ∃ z, z ∈ wordsW ∧ σ' = [some (.ref a), some (.ref p), some (.ref y), some (.ref e), some (.ref W), some (.int (0 + (i : Nat))), u6, u7, u8, some (.str z), some (.ref x), u11, u12, u13] ∧
        LS (TT2 PT0 PT1) p q C x dx d e W y dy d2 z2 kvs kv2 zs H' ∧ Alike H' kvs kv2, ?_, ?_⟩
      · refine ⟨_, rfl, p, q, 2, rfl, L.pool, by decide, by decide, fun H2 r b2 P2 r0 r2 => ⟨rfl, _, rfl, ?_⟩⟩
        have L2 := L.but b2 P2
        have al2 := al.ts (.mv L.pool (.but b2))
        refine ite2 (fun _ => ?_) (fun _ => ?_)
        · have ln : ((zs.map V.str).length : Int) = (i : Int) + 1 := by rw [List.length_map, zl]; omega
          refine ⟨_, rfl, _, rfl, _, rfl, W, _, rfl, .inl (.inl (.inl L2.w.e)), p, q, _, rfl, L2.pool, by omega, by omega, fun H3 r' b3 P3 r0' r3 => ?_⟩
          have L3 := L2.but b3 P3
          obtain ⟨j, rfl⟩ := Int.eq_ofNat_of_zero_le r0'
          have hj : j < zs.length := by omega
          exact ⟨W, _, _, .str zs[j], rfl, rfl, .inl (.inl L3.w.e), atI_nat (by rw [List.getElem?_map, List.getElem?_eq_getElem hj]; rfl), zs[j], L3.wd _ (List.getElem_mem hj), rfl, L3, al2.ts (.mv L2.pool (.but b3))⟩
        · exact ⟨_, rfl, p, q, rfl, L2.pool, fun H3 z b3 P3 hz => ⟨z, hz, rfl, L2.but b3 P3, al2.ts (.mv L2.pool (.but b3))⟩⟩
      clear L al u5 u9 H1
      rintro _ H1 ⟨z, hz, rfl, L, al⟩
      have hzn : isName (.str z) = true := (word_ok hz).1
      have kz : ∀ H', Kd H' (.str z) "str" := fun H' => .str z (Nat.le_trans (word_ok hz).2.1 (by decide))
      have shz : Showy (.str z) := okD_showy (word_ok hz).2.2.1
      have kl2 := paired_len al
      -- words.append(name)
      refine ⟨_, rfl, .inl ⟨rfl, _, .inl (.inl L.w.e)⟩, _, rfl, W, _, _, rfl, rfl, L.w.e, ?_, ?_⟩
      · rw [List.length_map, zl]
        exact Nat.lt_of_lt_of_le (Nat.succ_lt_succ hi) (by decide)
      have L1 := L.app hz
      have al1 := al.ts (.upd (o' := .lst (zs.map V.str ++ [.str z])) L.w.e (fun _ e => by cases e))
      clear L al
      generalize upd H1 W (.lst (zs.map V.str ++ [.str z])) = H2 at *
      -- a new run
      refine ⟨fun σ' H' => ∃ kvs' kv2' u6', σ' = [some (.ref a), some (.ref p), some (.ref y), some (.ref e), some (.ref W), some (.int (0 + (i : Nat))), u6', u7, u8, some (.str z), some (.ref x), u11, u12, u13] ∧
        LS (TT2 PT0 PT1) p q C x dx d e W y dy d2 z2 kvs' kv2' (zs ++ [z]) H' ∧ Alike H' kvs' kv2' ∧ kvs'.length ≤ i + 1, ?_, ?_⟩
      · refine ⟨_, rfl, p, q, 3, rfl, L1.pool, by decide, by decide, fun H3 r b3 P3 r0 r3 => ?_⟩
        have L3 := L1.but b3 P3
        have al3 := al1.ts (.mv L1.pool (.but b3))
        refine ⟨_, _, rfl, rfl, _, rfl, ite2 (fun _ => ?_) (fun _ => ⟨kvs, kv2, u6, rfl, L3, al3, Nat.le_succ_of_le kl⟩)⟩
        clear L1 al1 b3 P3
        refine ⟨_, rfl, p, q, 5, rfl, L3.pool, by decide, by decide, fun H4 n b4 P4 n0 n5 => ?_⟩
        have L4 := L3.but b4 P4
        have al4 := al3.ts (.mv L3.pool (.but b4))
        clear L3 al3 b4 P4
        refine ⟨n, rfl, by omega, by omega, fun D hD => lc_it (walk_range (lo := 0) (n := n.toNat)) (fun i' H' => Mv p q H4 H' ∧ PoolAt H' p q ∧ LamX.Tabs (TT2 PT0 PT1) H' ∧ ∃ its rr, Sf p q H' D (.lst its) ∧ its.length = i' ∧ Paired (PairAt H') its rr ∧ ∀ ab ∈ rr, PairOk ab)
          ⟨.same (Same.new hD), L4.pool.same (Same.new hD), L4.tabs.ext (Same.new hD), [], [], Sf.new L4.pool hD, rfl, .nil, fun _ h => nomatch h⟩ (fun _ _ _ _ => True.intro) ?_ ?_⟩
        · rintro i' v H5 H6 hi' ⟨m5, P5, T5, its, rr, fD, il, pr, ok⟩ ⟨rfl, rfl⟩
          refine ⟨rfl, _, rfl, p, q, 5, rfl, P5, by decide, by decide, fun H7 a1 b7 P7 a10 a15 => ⟨_, rfl, _, _, rfl, rfl, ⟨by decide, by decide, by decide⟩, p, q, _, rfl, P7, by decide, by decide, fun H8 a2 b8 P8 a20 a28 => ⟨(by show 2 ≤ sizeLine; decide), fun t ht => ?_⟩⟩⟩
          have b58 := b7.trans b8
          have T8 := tabs_but P5 T5 b58
          have st := Same.new (o := .tup [.int a1, .int a2]) ht
          have et : (upd H8 t (.tup [.int a1, .int a2])) t = _ := upd_same
          have P9 := P8.same st
          have T9 := T8.ext st
          have f9 := (fD.but b58).same st
          have m59 : Mv p q _ _ := (Mv.but b58).trans (.same st)
          generalize upd H8 t (.tup [.int a1, .int a2]) = H9 at *
          have ts : TpS _ (upd H9 D (.lst (its ++ [.ref t]))) := (TpS.mv P5 m59).trans (.upd f9.e (fun _ e => by cases e))
          refine ⟨its, f9.e, ?_, fun b o n1 n2 n3 e => ?_, pool_upd P9 f9.np f9.nq, tabs_upd T9 f9.e ⟨fun _ e => by (cases e), fun _ e => by (cases e)⟩, its ++ [.ref t], rr ++ [(a1, a2)], ⟨upd_same, f9.np, f9.nq⟩, by rw [List.length_append, il]; rfl, (paired_imp (fun _ _ h => h.ts ts) pr).snoc ⟨t, rfl, upd_far et f9.e (fun e => by cases e)⟩, fun ab hab => ?_⟩
          · rw [il]
            exact Nat.lt_trans hi' (Nat.lt_of_lt_of_le (show n.toNat < 6 by omega) (by decide))
          · rw [upd_ne (ne_of_none e hD)]
            exact m59 _ _ n1 n2 n3 (m5 _ _ n1 n2 n3 e)
          · rcases List.mem_append.mp hab with hab | hab
            · exact ok ab hab
            · rw [List.mem_singleton.mp hab]
              exact ⟨a10, Int.lt_trans a15 (by decide), a20, a28⟩
        · rintro H5 ⟨m5, P5, T5, its, rr, fD, il, pr, ok⟩
          have L5 := L4.mv m5 P5 T5
          have al5 := al4.ts (.mv L4.pool m5)
          have nDW : D ≠ W := (ne_of_none L4.w.e hD).symm
          have rok : RunOk rr := ⟨by rw [← paired_len pr, il]; omega, ok⟩
          have il5 : its.length ≤ 4 := by omega
          clear m5 P5 T5 L4 al4 hD
          -- table[name] = ..
          refine ⟨fun σ' H' => σ' = [some (.ref a), some (.ref p), some (.ref y), some (.ref e), some (.ref W), some (.int (0 + (i : Nat))), some (.ref D), u7, u8, some (.str z), some (.ref x), u11, u12, u13] ∧
            ∃ t, LS (TT2 PT0 PT1) p q C x dx d e W y dy d2 z2 (putK kvs (.inr z) (.ref t)) kv2 (zs ++ [z]) H' ∧ Alike H' kvs kv2 ∧ RunAt H' (.ref t) rr ∧ Sf p q H' D (.lst its) ∧ Paired (PairAt H') its rr, ?_, ?_⟩
          · have setok : ∀ (H6 : Hp) (v : V) (Qx : Hp → Prop), LS (TT2 PT0 PT1) p q C x dx d e W y dy d2 z2 kvs kv2 (zs ++ [z]) H6 → Alike H6 kvs kv2 → Sf p q H6 D (.lst its) → Paired (PairAt H6) its rr → LsX H6 v (some its) →
                (∀ H', (∃ t, LS (TT2 PT0 PT1) p q C x dx d e W y dy d2 z2 (putK kvs (.inr z) (.ref t)) kv2 (zs ++ [z]) H' ∧ Alike H' kvs kv2 ∧ RunAt H' (.ref t) rr ∧ Sf p q H' D (.lst its) ∧ Paired (PairAt H') its rr) → Qx H') →
                spNtSet C (cs.getD 1 0) (cs.getD 8 0) [.ref x, .str z, v] H6 (fun _ H' => Qx H') (fun _ _ _ => False) := by
              intro H6 v Qx L6 al6 f6 p6 ls k6
              refine ⟨x, dx, d, kvs, .str z, "str", v, some its, rfl, L6.n, kz _, ls, by omega, fun q => ?_, fun _ q => ?_, fun z' ws hz' _ hw _ H7 t s7 e7 => ?_⟩
              · rw [hzn] at q
                cases q
              · rw [show stepsOk H6 (some its) = its.all (isStep H6) from rfl, (steps_of p6 ok).2] at q
                cases q
              · cases hz'
                cases hw
                have L7 := L6.same s7
                have ts : TpS H6 (upd H7 d (.dK (putK kvs (.inr z) (.ref t)))) := (TpS.same s7).trans (.upd L7.n.dk (fun _ e => by cases e))
                have f7 := f6.same s7
                exact k6 _ ⟨t, L7.putd _, al6.ts ts, ⟨t, its, rfl, upd_far e7 L7.n.dk (fun e => by cases e), paired_imp (fun _ _ h => h.ts ts) p6⟩, ⟨upd_far f7.e L7.n.dk (fun e => by cases e), f7.np, f7.nq⟩, paired_imp (fun _ _ h => h.ts ts) p6⟩
            refine ⟨_, rfl, p, q, 2, rfl, L5.pool, by decide, by decide, fun H6 r b6 P6 r0 r6 => ⟨rfl, _, rfl, ?_⟩⟩
            have L6 := L5.but b6 P6
            have ts := TpS.mv L5.pool (.but b6)
            have al6 := al5.ts ts
            have f6 := fD.but b6
            have p6 := paired_imp (fun _ _ h => PairAt.ts h ts) pr
            refine ite2 (fun _ => ?_) (fun _ => ?_)
            · exact ⟨_, rfl, _, rfl, _, rfl, x, dx, _, rfl, L6.n.ins, setok H6 _ _ L6 al6 f6 p6 (.lst f6.e (by omega) (steps_of p6 ok).1) fun H' h => ⟨rfl, h⟩⟩
            · refine ⟨_, rfl, D, its, rfl, .inl f6.e, fun t7 H7 s7 e7 => ?_⟩
              have p7 := paired_imp (fun _ _ h => PairAt.ts h (.same s7)) p6
              exact ⟨_, rfl, _, rfl, x, dx, _, rfl, (L6.same s7).n.ins, setok H7 _ _ (L6.same s7) (al6.ts (.same s7)) (f6.same s7) p7 (.tup e7 (by omega) (steps_of p7 ok).1) fun H' h => ⟨rfl, h⟩⟩
          clear L5 al5 fD pr
          rintro _ H6 ⟨rfl, t, L6, al6, ra, fD, pr⟩
          -- due[name] = tuple(run)
          refine ⟨_, rfl, D, its, rfl, .inl fD.e, fun t3 H7 s7 e7 => ?_⟩
          have L7 := L6.same s7
          refine ⟨_, rfl, _, rfl, e, _, rfl, DPut.k (k := Sum.inr z) L7.due.e (Nat.lt_of_le_of_lt (show kv2.length ≤ 60 by omega) (by decide)), ?_⟩
          have ts : TpS H6 (upd H7 e (.dK (putK kv2 (.inr z) (.ref t3)))) := (TpS.same s7).trans (.upd L7.due.e (fun _ e => by cases e))
          have L8 := L7.pute (putK kv2 (.inr z) (.ref t3))
          have f7 := fD.same s7
          have f8 : Sf p q (upd H7 e (.dK (putK kv2 (.inr z) (.ref t3)))) D (.lst its) := ⟨upd_far f7.e L7.due.e (fun e => by cases e), f7.np, f7.nq⟩
          have al8 : Alike (upd H7 e (.dK (putK kv2 (.inr z) (.ref t3)))) (putK kvs (.inr z) (.ref t)) (putK kv2 (.inr z) (.ref t3)) := (al6.ts ts).put hz (ra.ts ts) ⟨t3, its, rfl, upd_far e7 L7.due.e (fun e => by cases e), paired_imp (fun _ _ h => h.ts ts) pr⟩ rok
          clear L6 al6 ra fD pr L7 ts f7 s7 e7
          generalize upd H7 e (.dK (putK kv2 (.inr z) (.ref t3))) = H8 at *
          -- run.append((9, 9))
          refine ⟨_, rfl, .inl ⟨rfl, _, .inl (.inl f8.e)⟩, (by show 2 ≤ sizeLine; decide), fun g9 hg9 => ?_⟩
          have s9 := Same.new (o := .tup [.int 9, .int 9]) hg9
          have L9 := L8.same s9
          have f9 := f8.same s9
          have al9 := al8.ts (.same s9)
          generalize upd H8 g9 (.tup [.int 9, .int 9]) = H9 at *
          refine ⟨D, _, _, rfl, rfl, f9.e, Nat.lt_of_le_of_lt il5 (by decide), _, _, _, rfl, L9.putl _ f9 nDW, al9.ts (.upd f9.e (fun _ e => by cases e)), Nat.le_trans (putK_len _ _ _) (Nat.succ_le_succ kl)⟩
      clear L1 al1 u6 kl2 kl kvs kv2 H2
      rintro _ H2 ⟨kvs, kv2, u6, rfl, L, al, kl⟩
      have kl2 := paired_len al
      -- what is refused, lengths
      refine ⟨_, rfl, _, rfl, p, q, x, dx, d, kvs, rfl, L.pool, L.n, by omega, L.tabs, fun H3 m3 P3 T3 => ⟨_, rfl, iteF ?_⟩⟩
      have L3 := L.mv m3 P3 T3
      have al3 := al.ts (.mv L.pool m3)
      clear L al m3 P3 T3
      have shn : Showy (.int (kvs.length : Nat)) := okD_showy (okD_int (by omega))
      refine ⟨_, rfl, x, dx, _, rfl, L3.n.ins, x, dx, d, kvs, rfl, L3.n, _, rfl, by omega, by omega, _, _, rfl, .inl (.int _), shn, _, rfl, e, kv2, rfl, L3.due.e, _, _, rfl, .inl (.int _), kl2 ▸ shn, rfl, _, rfl, ifNe (by rw [kl2]) ?_⟩
      -- wanted
      refine ⟨fun σ' H' => ∃ Wv, σ' = [some (.ref a), some (.ref p), some (.ref y), some (.ref e), some (.ref W), some (.int (0 + (i : Nat))), u6, some Wv, u8, some (.str z), some (.ref x), u11, u12, u13] ∧
        LS (TT2 PT0 PT1) p q C x dx d e W y dy d2 z2 kvs kv2 (zs ++ [z]) H' ∧ Alike H' kvs kv2 ∧ ((valV kvs (.inr z) = none ∧ ∃ l, Wv = .ref l ∧ H' l = some (.lst [.str "name", .str (PyData.shown (.str z))])) ∨ ((valV kvs (.inr z)).isSome = true ∧ Wv = .non)), ?_, ?_⟩
      · refine ⟨_, rfl, _, rfl, e, _, rfl, DGet.k (k := Sum.inr z) L3.due.e, _, rfl, ?_⟩
        rcases al3.val (.inr z) with ⟨v1, v2⟩ | ⟨v, w', r, v1, v2, _, _, _⟩
        · rw [v2]
          refine iteF ⟨_, rfl, _, _, rfl, .inl (.str _), shz, (by show 2 ≤ sizeLine; decide), fun l hl => ?_⟩
          have sl := Same.new (o := .lst [.str "name", .str (PyData.shown (.str z))]) hl
          exact ⟨_, rfl, L3.same sl, al3.ts (.same sl), .inl ⟨v1, l, rfl, upd_same⟩⟩
        · rw [v2]
          exact iteT ⟨_, rfl, L3, al3, .inr ⟨by rw [v1]; rfl, rfl⟩⟩
      clear L3 al3 u7 H2 H3
      rintro _ H3 ⟨Wv, rfl, L3, al3, hWv⟩
      have vsame : (valV kv2 (.inr z)).isSome = (valV kvs (.inr z)).isSome := by
        rcases al3.val (.inr z) with ⟨v1, v2⟩ | ⟨v, w', r, v1, v2, _, _, _⟩
        · rw [v1, v2]
        · rw [v1, v2]
          rfl
      have hk : hasK (.str z) kvs = (valV kvs (.inr z)).isSome := by
        show (nameOk z && (valV kvs (.inr z)).isSome) = _
        rw [show nameOk z = true from hzn, Bool.true_and]
      have shb : ∀ b : Bool, Showy (.bool b) := fun b => okD_showy (by cases b <;> decide +kernel)
      refine ⟨fun σ' H' => σ' = [some (.ref a), some (.ref p), some (.ref y), some (.ref e), some (.ref W), some (.int (0 + (i : Nat))), u6, some Wv, u8, some (.str z), some (.ref x), u11, u12, u13] ∧
        LS (TT2 PT0 PT1) p q C x dx d e W y dy d2 z2 kvs kv2 (zs ++ [z]) H' ∧ Alike H' kvs kv2, ?_, ?_⟩
      · refine ⟨_, rfl, _, rfl, x, dx, _, rfl, L3.n.ins, x, dx, d, kvs, .str z, "str", rfl, L3.n, kz _, fun H4 s4 => ⟨_, rfl, _, _, rfl, .inl (.bl _), shb _, _, rfl, _, rfl, e, _, rfl, DGet.k (k := Sum.inr z) (L3.same s4).due.e, _, _, rfl, .inl (.bl _), shb _, rfl, _, rfl, ifNe (by rw [hk, vsame]) ?_⟩⟩
        have L4 := L3.same s4
        have al4 := al3.ts (.same s4)
        refine ⟨L4.tabs, fun H5 ex tx E1 hE1 => ?_⟩
        have L5 := L4.step ex tx
        have al5 := al4.ts (.ext ex)
        refine ⟨_, rfl, _, rfl, x, dx, _, rfl, L5.n.ins, x, dx, d, kvs, .str z, "str", rfl, L5.n, kz _, fun hh => ?_, fun z' u hz' _ hu H6 s6 => ?_⟩
        · rcases hWv with ⟨v1, l, rfl, el⟩ | ⟨v1, _⟩
          · refine fun dd' H6 s6 e6 => hE1 _ _ _ ⟨1, dd', .str z, .str z, by decide, rfl, rfl, e6, .inl (.str _), (word_ok hz).2.2.1, fun H7 r s7 e7 => ?_⟩
            have s67 := s6.trans s7
            have okz := okD_strOk (word_ok hz).2.2.1
            exact ⟨_, rfl, _, _, dp_two e7, dp_two (s67 _ _ (ex _ _ (s4 _ _ el) (fun _ e => by cases e))), shaped_two okz, shaped_two okz, _, rfl, ifTwo ⟨rfl, L5.same s67, al5.ts (.same s67)⟩⟩
          · rw [hk, v1] at hh
            cases hh
        · rcases hWv with ⟨v1, _⟩ | ⟨_, rfl⟩
          · cases hz'
            rw [v1] at hu
            cases hu
          · exact ⟨_, rfl, _, _, .non, .non, rfl, rfl, _, rfl, iteF ⟨rfl, L5.same s6, al5.ts (.same s6)⟩⟩
      clear L3 al3 hWv H3
      rintro _ H3 ⟨rfl, L3, al3⟩
      refine ⟨fun σ' H' => σ' = [some (.ref a), some (.ref p), some (.ref y), some (.ref e), some (.ref W), some (.int (0 + (i : Nat))), u6, some Wv, u8, some (.str z), some (.ref x), u11, u12, u13] ∧
        LS (TT2 PT0 PT1) p q C x dx d e W y dy d2 z2 kvs kv2 (zs ++ [z]) H' ∧ Alike H' kvs kv2, ?_, ?_⟩
      · refine ⟨_, rfl, _, rfl, e, _, rfl, DGet.k (k := Sum.inr z) L3.due.e, _, rfl, ?_⟩
        rcases al3.val (.inr z) with ⟨v1, v2⟩ | ⟨v, w', r, v1, v2, ra, rb, rok⟩
        · rw [v2]
          exact iteF ⟨rfl, L3, al3⟩
        · rw [v2]
          refine iteT ⟨_, rfl, _, rfl, x, dx, _, rfl, L3.n.ins, x, dx, d, kvs, .str z, "str", rfl, L3.n, kz _, fun hh => ?_, fun z' u hz' _ hu H4 s4 => ?_⟩
          · rw [hk, v1] at hh
            cases hh
          · cases hz'
            rw [v1] at hu
            cases hu
            refine ⟨_, dRun r, rfl, .inl (ra.ts (.same s4)).dp, rok.showy, _, rfl, _, rfl, e, w', rfl, ?_, _, dRun r, rfl, .inl (rb.ts (.same s4)).dp, rok.showy, rfl, _, rfl, ifNe rfl ⟨rfl, L3.same s4, al3.ts (.same s4)⟩⟩
            rw [← v2]
            exact DGet.k (k := Sum.inr z) (L3.same s4).due.e
      clear L3 al3 H3
      rintro _ H3 ⟨rfl, L3, al3⟩
      -- rows
      obtain ⟨names, nk1, nk2, nl, nw⟩ := al3.names
      have h64 : names.length < 64 := by omega
      have klen := keys_len nk2
      refine ⟨e, _, L3.due.e, True.intro, fun od => ⟨_, rfl, e, od, rfl, .inl ⟨kv2, upd_same, fun D hD => lc_it walk_keys (fun i H' => Same (upd H3 e (.frz od (.dK kv2))) H' ∧ H' D = some (.lst ((names.take i).map V.str))) ⟨Same.new hD, upd_same⟩ (fun i H' _ h => h.1 _ _ upd_same) ?_ ?_⟩⟩⟩
      · rintro i' y' H' H'' hi' ⟨s2, hD2⟩ ⟨rfl, key, u, hkv, rfl⟩
        obtain ⟨z', hz', rfl⟩ := key_at nk2 hkv
        refine ⟨rfl, _, rfl, z', rfl, _, hD2, ?_, ?_⟩
        · rw [List.length_map, List.length_take]
          exact Nat.lt_of_le_of_lt (Nat.min_le_right _ _) (Nat.lt_trans h64 (by decide))
        · refine ⟨fun b o e => ?_, ?_⟩
          · rw [upd_ne (ne_of_none e hD)]
            exact s2 _ _ e
          · rw [upd_same, List.take_add_one, hz', List.map_append]
            rfl
      · rintro H' ⟨s2, hD2⟩
        refine ⟨s2 _ _ upd_same, ?_⟩
        have nDd : D ≠ e := fun q => by rw [q, upd_same] at hD; cases hD
        have s3 : Same H3 (upd H' e (.dK kv2)) := fun b o h => by
          by_cases q : b = e
          · rw [q, L3.due.e] at h
            rw [q, upd_same, ← h]
          · rw [upd_ne q]
            exact s2 _ _ (by rw [upd_ne q]; exact h)
        have e3 : (upd H' e (.dK kv2)) D = some (.lst (names.map V.str)) := by
          rw [upd_ne nDd, hD2, klen, List.take_length]
        generalize upd H' e (.dK kv2) = H4 at *
        refine ⟨D, names, rfl, .inl (.inl e3), h64, fun ys p' perm srt hp => ?_⟩
        have s5 := s3.trans (Same.new (o := .lst (ys.map V.str)) hp)
        have e5 : (upd H4 p' (.lst (ys.map V.str))) p' = _ := upd_same
        generalize upd H4 p' (.lst (ys.map V.str)) = H5 at *
        have ylen : ys.length < 64 := by rw [perm.length_eq]; exact h64
        refine ⟨p', rfl, ⟨_, .inl (.inl e5)⟩, fun D2 hD6 => lc_it walk_list (fun i H' => Same H5 H' ∧ ∃ its, H' D2 = some (.lst its) ∧ its.length = i ∧ Paired (EntAt kv2 H') (ys.take i) its) ⟨Same.new hD6, [], upd_same, rfl, .nil⟩ (fun i H' _ h => .inl (.inl (h.1 _ _ e5))) ?_ ?_⟩
        · rintro i' y' Hx H6 hi' ⟨s6, its, hD7, il, pr⟩ ⟨rfl, hy⟩
          rw [List.getElem?_map] at hy
          cases hq : ys[i']? with
          | none => rw [hq] at hy; cases hy
          | some z' =>
          rw [hq] at hy
          cases hy
          obtain ⟨u, hu⟩ := has_key nk2 (perm.mem_iff.mp (List.mem_of_getElem? hq))
          have L6 := L3.same (s5.trans s6)
          refine ⟨rfl, _, rfl, _, rfl, _, rfl, e, u, rfl, (by rw [← hu]; exact DGet.k (k := Sum.inr z') L6.due.e), (by show 2 ≤ sizeLine; decide), fun q' hq2 => ?_⟩
          have s7 := Same.new (o := .tup [.str z', u]) hq2
          have e7 : (upd H6 q' (.tup [.str z', u])) q' = _ := upd_same
          generalize upd H6 q' (.tup [.str z', u]) = H7 at *
          refine ⟨its, s7 _ _ hD7, ?_, fun b o h => ?_, its ++ [.ref q'], upd_same, by rw [List.length_append, il]; rfl, ?_⟩
          · rw [il]
            rw [List.length_map] at hi'
            exact Nat.lt_trans hi' (Nat.lt_trans ylen (by decide))
          · rw [upd_ne (ne_of_none h hD6)]
            exact s7 _ _ (s6 _ _ h)
          · rw [List.take_add_one, hq]
            exact (paired_imp (fun _ _ h => (EntAt.same h s7).put (s7 _ _ hD7)) pr).snoc (EntAt.put ⟨q', u, rfl, e7, hu⟩ (s7 _ _ hD7))
        · rintro H6 ⟨s6, its, hD7, il, pr⟩
          rw [List.length_map, List.take_length] at pr
          have L6 := L3.same (s5.trans s6)
          have al6 := al3.ts (.same (s5.trans s6))
          clear s6 s5 s3 e3 e5 s2 hD2
          -- listed
          refine ⟨_, rfl, x, dx, _, rfl, L6.n.ins, rfl, x, dx, d, kvs, names, rfl, L6.n, nk1, h64, fun H7 t ys2 its2 s7 perm2 srt2 e7 pr2 => ?_⟩
          have ey : ys2 = ys := sorted_uniq (perm2.trans perm.symm) srt2 srt
          subst ey
          obtain ⟨ds, dp1, dp2, sm⟩ := told_same (K := K) (al6.ts (.same s7)) pr2 (paired_imp (fun _ _ h => EntAt.same h s7) pr) (fun y' hy' => nw y' (perm.mem_iff.mp hy'))
          have sh := sm.showy (by omega)
          refine ⟨_, .tuple ds, rfl, .inl (.tup (.inl (.inl e7)) dp1), sh, _, rfl, D2, its, rfl, .inl (s7 _ _ hD7), fun t3 H8 s8 e8 => ⟨_, .tuple ds, rfl, .inl (.tup (.inl (.inl e8)) (dp_sameAll s8 _ _ dp2)), sh, rfl, _, rfl, ifNe rfl ?_⟩⟩
          exact ⟨kvs, kv2, zs ++ [z], _, _, _, _, _, _, _, _, rfl, L6.same (s7.trans s8), al6.ts (.same (s7.trans s8)), kl, by rw [List.length_append, zl]; rfl⟩
    · rintro σ H1' ⟨kvs, kv2, zs, u5, u6, u7, u8, u9, u11, u12, u13, rfl, L, al, kl, zl⟩
      refine ⟨_, rfl, y, dy, _, rfl, L.o.ins, rfl, y, dy, d2, [(.inr "zz", .ref z2)], ["zz"], rfl, L.o, rfl, by decide, fun H2' t ys its s2 perm srt e2 pr => ?_⟩
      have ey : ys = [Str.ofString "zz"] := List.perm_singleton.mp perm
      subst ey
      cases pr with
      | cons h1 h2 =>
      cases h2
      obtain ⟨q', u, rfl, e3, e4⟩ := h1
      rw [valV_pos rfl] at e4
      cases e4
      have rr := L.r.ts (.same s2)
      have dz : okD (.tuple [.tuple [.str "zz", dRun [(1, 2)]]]) = true := by decide +kernel
      refine ⟨_, .tuple [.tuple [.str "zz", dRun [(1, 2)]]], rfl, .inl (.tup (.inl (.inl e2)) (.cons (.tup (.inl (.inl e3)) (.cons (.str _) (.cons rr.dp .nil))) .nil)), okD_showy dz, (by show 2 ≤ sizeLine; decide), fun g1 hg1 => ⟨(by show 1 ≤ sizeLine; decide), fun g2 hg2 => ⟨(by show 2 ≤ sizeLine; decide), fun g3 hg3 => ⟨(by show 1 ≤ sizeLine; decide), fun g4 hg4 => ?_⟩⟩⟩⟩
      have c2 := Same.new (o := .tup [.ref g1]) hg2
      have c3 := Same.new (o := .tup [.str "zz", .ref g2]) hg3
      have c4 := Same.new (o := .tup [.ref g3]) hg4
      refine ⟨_, .tuple [.tuple [.str "zz", dRun [(1, 2)]]], rfl, .inl (.tup (.inl (.inl upd_same)) (.cons (.tup (.inl (.inl (c4 _ _ upd_same))) (.cons (.str _) (.cons (.tup (.inl (.inl (c4 _ _ (c3 _ _ upd_same)))) (.cons (.tup (.inl (.inl (c4 _ _ (c3 _ _ (c2 _ _ upd_same))))) (.cons (.int _) (.cons (.int _) .nil))) .nil)) .nil))) .nil)), okD_showy dz, rfl, ?_⟩
      rw [decide_eq_true rfl]
      exact k _
end
/-! ### the errors' classes by computation -/
def exB (K : PySem.W.Frag) (C : Addr) : Bool := xfB K C && PySem.W.keepIn K (.ref C) && decide (PySem.W.findIn K (.ref C) "__class__" = some (some (.builtin "object.__class__"))) &&
  decide (PySem.W.specialIn K (.builtin "object.__class__") "__get__" = some (some (.builtin "getset_descriptor.__get__"))) && decide (PySem.W.takesIn K (.builtin "object.__class__") = some true) && decide (PySem.W.mroIn K C (.type "object") = some true)
theorem exB_ok {K : PySem.W.Frag} {C : Addr} (h : exB K C = true) : XfC K C ∧ PySem.W.keepIn K (.ref C) = true ∧ ExcC K C := by
  unfold exB at h
  simp only [Bool.and_eq_true, decide_eq_true_eq] at h
  obtain ⟨⟨⟨⟨⟨h1, h2⟩, h3⟩, h4⟩, h5⟩, h6⟩ := h
  have x := xfB_ok h1
  exact ⟨x, h2, x.ga, x.gg, x.exC, x.hdC, h3, h4, h5, h6⟩
theorem mro_refs : ∀ l : List Value, PySem.HandSPX.refsVE l = true → MroOk l := fun l h => ⟨fun v => PySem.HandSPX.refsVE_pass v l h, PySem.HandSPX.refsVE_ne h, (PySem.HandSPX.refsVE_contains "object" l h).trans (by decide +kernel)⟩
def errTab (K : PySem.W.Frag) (cs : List Addr) (cH : Addr) : Bool := (List.range 13).all fun i => exB K (cs.getD i 0) && ((List.range 13).all fun j => decide (PySem.W.kitOne K (.ref (cs.getD i 0)) (.ref (cs.getD j 0)) = some (decide (i = j)))) &&
  decide (PySem.W.kitOne K (.ref (cs.getD i 0)) (.ref cH) = some (decide (i < 11))) && decide (PySem.W.exmOne K (.ref (cs.getD i 0)) (.ref cH) = some (decide (i < 11))) && (decide (11 ≤ i) || decide (PySem.W.findIn K (.ref (cs.getD i 0)) "value" = some none))
theorem errTab_ok {K : PySem.W.Frag} {cs : List Addr} {cH : Addr} (h : errTab K cs cH = true) : ∀ i, i < 13 → exB K (cs.getD i 0) = true ∧ (∀ j, j < 13 → PySem.W.kitOne K (.ref (cs.getD i 0)) (.ref (cs.getD j 0)) = some (decide (i = j))) ∧
    PySem.W.kitOne K (.ref (cs.getD i 0)) (.ref cH) = some (decide (i < 11)) ∧ PySem.W.exmOne K (.ref (cs.getD i 0)) (.ref cH) = some (decide (i < 11)) ∧ (i < 11 → PySem.W.findIn K (.ref (cs.getD i 0)) "value" = some none) := by
  intro i hi
  have h1 := List.all_eq_true.mp h i (List.mem_range.mpr hi)
  simp only [Bool.and_eq_true, Bool.or_eq_true, decide_eq_true_eq] at h1
  obtain ⟨⟨⟨⟨h2, h3⟩, h4⟩, h5⟩, h6⟩ := h1
  exact ⟨h2, fun j hj => of_decide_eq_true (List.all_eq_true.mp h3 j (List.mem_range.mpr hj)), h4, h5, fun q => h6.elim (fun z => absurd z (by omega)) id⟩
def erB (K : PySem.W.Frag) (C fI : Addr) : Bool := decide (PySem.W.findIn K (.ref C) "__setattr__" = some (some (.builtin "object.__setattr__"))) && decide (PySem.W.subIn K (.ref C) (.type "BaseException") = some true) &&
  decide (PySem.W.typeIn K (.ref C) = some (.type "type")) && PySem.W.keepIn K (.ref C) && decide (PySem.W.findIn K (.ref C) "__init__" = some (some (.ref fI))) && decide (PySem.W.typeIn K (.ref fI) = some (.type "function")) && decide (PySem.W.findIn K (.ref C) "value" = some none)
theorem errC_mk {K : PySem.W.Frag} {mg : Str → Option Value} {x : Str} {fI C N : Addr} {nm q : Str} {bs bm : List Value} {sn : List Str} {sub : List Value} {ab : Bool} {col : Option Bool} {dd : Option Addr} {k0 k1 k2 k3 k5 : Option Value}
    (gC : mg x = some (.ref C)) (hC : K.lookup C = some (excClassObj nm q C N bs bm true sn sub ab col dd k0 k1 k2 k3 k5 "ValueError.__new__")) (hb : PySem.HandSPX.refsVE bm = true) (h : erB K C fI = true) : ErrC K mg x C fI := by
  unfold erB at h
  simp only [Bool.and_eq_true, decide_eq_true_eq] at h
  obtain ⟨⟨⟨⟨⟨⟨h1, h2⟩, h3⟩, h4⟩, h5⟩, h6⟩, h7⟩ := h
  exact ⟨gC, ⟨⟨_, _, _, _, _, _, _, _, _, _, _, _, _, _, _, hC, hb⟩, h1, h2, h3, h4⟩, ⟨⟨_, _, _, _, _, _, _, _, _, _, _, _, _, _, _, _, _, _, _, hC, F.excBase_ValueError, fun Y => PySem.HandSPX.refsVE_contains Y bm hb, mro_refs _ hb⟩, h1, h4⟩, h5, h6, h7⟩
/-- a plain class -/
def clsB (K : PySem.W.Frag) (C : Addr) : Bool := PySem.W.plainGet K C Str.empty && PySem.W.hasDictIn K C && PySem.W.plainOver K C && decide (PySem.W.findIn K (.ref C) "__setattr__" = some (some (.builtin "object.__setattr__"))) &&
  decide (PySem.W.findIn K (.ref C) "__class__" = some (some (.builtin "object.__class__"))) && decide (PySem.W.specialIn K (.builtin "object.__class__") "__get__" = some (some (.builtin "getset_descriptor.__get__"))) &&
  decide (PySem.W.takesIn K (.builtin "object.__class__") = some true) && decide (PySem.W.mroIn K C (.type "object") = some true) && PySem.W.makesIn K C && PySem.W.keepIn K (.ref C)
theorem clsB_ok {K : PySem.W.Frag} {C : Addr} (h : clsB K C = true) : Cls K C ∧ (∀ (H : Hp) (x dx : Addr) (fs : List (Str × V)), H x = some (.ins C dx fs) → TyX K H (.ref x) (.ref C)) ∧ PySem.W.makesIn K C = true ∧ PySem.W.keepIn K (.ref C) = true := by
  unfold clsB at h
  simp only [Bool.and_eq_true, decide_eq_true_eq] at h
  obtain ⟨⟨⟨⟨⟨⟨⟨⟨⟨h1, h2⟩, h3⟩, h4⟩, h5⟩, h6⟩, h7⟩, h8⟩, h9⟩, h10⟩ := h
  have c : Cls K C := ⟨h1, h2, h3, h4⟩
  exact ⟨c, fun H x dx fs e => .base (.ins e c h5 h6 h7 h8), h9, h10⟩
def noB (K : PySem.W.Frag) (C : Addr) (fs : List Str) : Bool := fs.all fun f => decide (PySem.W.findIn K (.ref C) f = some none)
theorem noB_ok {K : PySem.W.Frag} {C : Addr} {fs : List Str} (h : noB K C fs = true) : ∀ f ∈ fs, NoAttr K C f := fun f hf => (of_decide_eq_true (List.all_eq_true.mp h f hf) : PySem.W.findIn K (.ref C) f = some none)
theorem all_mk {l : PySem.W.OpenLaw} {w : World} {K : PySem.W.Frag} {h : Heap} {mg : Str → Option Value} {fa : Addr} (X : K.In h) (G : h.Ns mainGlobals mg) (hfa : mg "law" = some (.ref fa))
    {odCo anCo : Option Addr}
    {slCo : Array (Option Value)}
    {ocCo kVCo dcCo pmCo cdCo ctCo : Value}
    {fCo : Addr}
    {odNm anNm : Option Addr}
    {slNm : Array (Option Value)}
    {ocNm kVNm dcNm pmNm cdNm ctNm : Value}
    {fNm : Addr}
    {odSp anSp : Option Addr}
    {slSp : Array (Option Value)}
    {ocSp kVSp dcSp pmSp cdSp ctSp : Value}
    {fSp : Addr}
    {odLi anLi : Option Addr}
    {slLi : Array (Option Value)}
    {ocLi kVLi dcLi pmLi cdLi ctLi : Value}
    {fLi : Addr}
    {odBe anBe : Option Addr}
    {slBe : Array (Option Value)}
    {ocBe kVBe dcBe pmBe cdBe ctBe : Value}
    {fBe : Addr}
    {odMi anMi : Option Addr}
    {slMi : Array (Option Value)}
    {ocMi kVMi dcMi pmMi cdMi ctMi : Value}
    {fMi : Addr}
    {odDr anDr : Option Addr}
    {slDr : Array (Option Value)}
    {ocDr kVDr dcDr pmDr cdDr ctDr : Value}
    {fDr : Addr}
    {odWh anWh : Option Addr}
    {slWh : Array (Option Value)}
    {ocWh kVWh dcWh pmWh cdWh ctWh : Value}
    {fWh : Addr}
    {odCa anCa : Option Addr}
    {slCa : Array (Option Value)}
    {ocCa kVCa dcCa pmCa cdCa ctCa : Value}
    {fCa : Addr}
    {odBa anBa : Option Addr}
    {slBa : Array (Option Value)}
    {ocBa kVBa dcBa pmBa cdBa ctBa : Value}
    {fBa : Addr}
    {odLs anLs : Option Addr}
    {slLs : Array (Option Value)}
    {ocLs kVLs dcLs pmLs cdLs ctLs : Value}
    {fLs : Addr}
    {odWd anWd : Option Addr}
    {slWd : Array (Option Value)}
    {ocWd kVWd dcWd pmWd cdWd ctWd : Value}
    {fWd : Addr}
    {odRe anRe : Option Addr}
    {slRe : Array (Option Value)}
    {ocRe kVRe dcRe pmRe ctRe : Value}
    {fRe : Addr}
    {cCRe PTRe : Addr}
    {ccRe : Value}
    {cd'Re : Option Addr}
    {cvRe : Array Value}
    {csRe : Array (Option Value)}
    {odLa anLa : Option Addr}
    {slLa : Array (Option Value)}
    {ocLa kVLa dcLa pmLa ctLa : Value}
    {fLa : Addr}
    {cCLa PTLa : Addr}
    {ccLa : Value}
    {cd'La : Option Addr}
    {cvLa : Array Value}
    {csLa : Array (Option Value)}
    {cH fHI : Addr}
    {C0 : Addr}
    {C1 : Addr}
    {C2 : Addr}
    {C3 : Addr}
    {C4 : Addr}
    {C5 : Addr}
    {C6 : Addr}
    {C7 : Addr}
    {C8 : Addr}
    {C9 : Addr}
    {C10 : Addr}
    {C11 : Addr}
    {C12 : Addr}
    {odHI anHI : Option Addr}
    {slHI : Array (Option Value)}
    {ocHI kVHI dcHI pmHI cdHI ctHI : Value}
    {nm1 q1 : Str}
    {N1 : Addr}
    {bs1 bm1 : List Value}
    {sn1 : List Str}
    {sub1 : List Value}
    {ab1 : Bool}
    {col1 : Option Bool}
    {dd1 : Option Addr}
    {x01 x11 x21 x31 x51 : Option Value}
    {nm8 q8 : Str}
    {N8 : Addr}
    {bs8 bm8 : List Value}
    {sn8 : List Str}
    {sub8 : List Value}
    {ab8 : Bool}
    {col8 : Option Bool}
    {dd8 : Option Addr}
    {x08 x18 x28 x38 x58 : Option Value}
    {Cd : Addr}
    {odIn anIn : Option Addr}
    {slIn : Array (Option Value)}
    {ocIn kVIn dcIn pmIn cdIn ctIn : Value}
    {fIn : Addr}
    {odSe anSe : Option Addr}
    {slSe : Array (Option Value)}
    {ocSe kVSe dcSe pmSe cdSe ctSe : Value}
    {fSe : Addr}
    {odIt anIt : Option Addr}
    {slIt : Array (Option Value)}
    {ocIt kVIt dcIt pmIt cdIt ctIt : Value}
    {fIt : Addr}
    {odIc anIc : Option Addr}
    {slIc : Array (Option Value)}
    {ocIc kVIc dcIc pmIc cdIc ctIc : Value}
    {fIc : Addr}
    {odLn anLn : Option Addr}
    {slLn : Array (Option Value)}
    {ocLn kVLn dcLn pmLn cdLn ctLn : Value}
    {fLn : Addr}
    {odLd anLd : Option Addr}
    {slLd : Array (Option Value)}
    {ocLd kVLd dcLd pmLd cdLd ctLd : Value}
    {fLd : Addr}
    {v0 v1 : Value}
    (aCo : PySem.W.nsIn K mainGlobals "is_count" = some (some (.ref fCo)))
    (lCo : K.lookup fCo = some ⟨ocCo, odCo, .func (PySem.W.fnOf "is_count" "is_count" (defArgs sCount) (defBody sCount) (defScope sCount) .none kVCo dcCo pmCo anCo cdCo ctCo), slCo⟩)
    (cCo : PySem.W.codeIn K cdCo "is_count" = true)
    (kCo : PySem.W.keepIn K (.ref fCo) = true)
    (aNm : PySem.W.nsIn K mainGlobals "is_name" = some (some (.ref fNm)))
    (lNm : K.lookup fNm = some ⟨ocNm, odNm, .func (PySem.W.fnOf "is_name" "is_name" (defArgs sName) (defBody sName) (defScope sName) .none kVNm dcNm pmNm anNm cdNm ctNm), slNm⟩)
    (cNm : PySem.W.codeIn K cdNm "is_name" = true)
    (kNm : PySem.W.keepIn K (.ref fNm) = true)
    (aSp : PySem.W.nsIn K mainGlobals "is_step" = some (some (.ref fSp)))
    (lSp : K.lookup fSp = some ⟨ocSp, odSp, .func (PySem.W.fnOf "is_step" "is_step" (defArgs sStep) (defBody sStep) (defScope sStep) .none kVSp dcSp pmSp anSp cdSp ctSp), slSp⟩)
    (cSp : PySem.W.codeIn K cdSp "is_step" = true)
    (kSp : PySem.W.keepIn K (.ref fSp) = true)
    (aLi : PySem.W.nsIn K mainGlobals "is_listing" = some (some (.ref fLi)))
    (lLi : K.lookup fLi = some ⟨ocLi, odLi, .func (PySem.W.fnOf "is_listing" "is_listing" (defArgs sListing) (defBody sListing) (defScope sListing) .none kVLi dcLi pmLi anLi cdLi ctLi), slLi⟩)
    (cLi : PySem.W.codeIn K cdLi "is_listing" = true)
    (kLi : PySem.W.keepIn K (.ref fLi) = true)
    (aBe : PySem.W.nsIn K mainGlobals "_law_begin" = some (some (.ref fBe)))
    (lBe : K.lookup fBe = some ⟨ocBe, odBe, .func (PySem.W.fnOf "_law_begin" "_law_begin" (defArgs sBegin) (defBody sBegin) (defScope sBegin) .none kVBe dcBe pmBe anBe cdBe ctBe), slBe⟩)
    (cBe : PySem.W.codeIn K cdBe "_law_begin" = true)
    (kBe : PySem.W.keepIn K (.ref fBe) = true)
    (aMi : PySem.W.nsIn K mainGlobals "_law_mixed" = some (some (.ref fMi)))
    (lMi : K.lookup fMi = some ⟨ocMi, odMi, .func (PySem.W.fnOf "_law_mixed" "_law_mixed" (defArgs sMixed) (defBody sMixed) (defScope sMixed) .none kVMi dcMi pmMi anMi cdMi ctMi), slMi⟩)
    (cMi : PySem.W.codeIn K cdMi "_law_mixed" = true)
    (kMi : PySem.W.keepIn K (.ref fMi) = true)
    (aDr : PySem.W.nsIn K mainGlobals "_law_draw" = some (some (.ref fDr)))
    (lDr : K.lookup fDr = some ⟨ocDr, odDr, .func (PySem.W.fnOf "_law_draw" "_law_draw" (defArgs sDraw) (defBody sDraw) (defScope sDraw) .none kVDr dcDr pmDr anDr cdDr ctDr), slDr⟩)
    (cDr : PySem.W.codeIn K cdDr "_law_draw" = true)
    (kDr : PySem.W.keepIn K (.ref fDr) = true)
    (aWh : PySem.W.nsIn K mainGlobals "_law_which" = some (some (.ref fWh)))
    (lWh : K.lookup fWh = some ⟨ocWh, odWh, .func (PySem.W.fnOf "_law_which" "_law_which" (defArgs sWhich) (defBody sWhich) (defScope sWhich) .none kVWh dcWh pmWh anWh cdWh ctWh), slWh⟩)
    (cWh : PySem.W.codeIn K cdWh "_law_which" = true)
    (kWh : PySem.W.keepIn K (.ref fWh) = true)
    (aCa : PySem.W.nsIn K mainGlobals "_law_caught" = some (some (.ref fCa)))
    (lCa : K.lookup fCa = some ⟨ocCa, odCa, .func (PySem.W.fnOf "_law_caught" "_law_caught" (defArgs sCaught) (defBody sCaught) (defScope sCaught) .none kVCa dcCa pmCa anCa cdCa ctCa), slCa⟩)
    (cCa : PySem.W.codeIn K cdCa "_law_caught" = true)
    (kCa : PySem.W.keepIn K (.ref fCa) = true)
    (aBa : PySem.W.nsIn K mainGlobals "_law_bad_name" = some (some (.ref fBa)))
    (lBa : K.lookup fBa = some ⟨ocBa, odBa, .func (PySem.W.fnOf "_law_bad_name" "_law_bad_name" (defArgs sBad) (defBody sBad) (defScope sBad) .none kVBa dcBa pmBa anBa cdBa ctBa), slBa⟩)
    (cBa : PySem.W.codeIn K cdBa "_law_bad_name" = true)
    (kBa : PySem.W.keepIn K (.ref fBa) = true)
    (aLs : PySem.W.nsIn K mainGlobals "_law_set" = some (some (.ref fLs)))
    (lLs : K.lookup fLs = some ⟨ocLs, odLs, .func (PySem.W.fnOf "_law_set" "_law_set" (defArgs sLSet) (defBody sLSet) (defScope sLSet) .none kVLs dcLs pmLs anLs cdLs ctLs), slLs⟩)
    (cLs : PySem.W.codeIn K cdLs "_law_set" = true)
    (kLs : PySem.W.keepIn K (.ref fLs) = true)
    (aWd : PySem.W.nsIn K mainGlobals "_law_word" = some (some (.ref fWd)))
    (lWd : K.lookup fWd = some ⟨ocWd, odWd, .func (PySem.W.fnOf "_law_word" "_law_word" (defArgs sWord) (defBody sWord) (defScope sWord) .none kVWd dcWd pmWd anWd cdWd ctWd), slWd⟩)
    (cWd : PySem.W.codeIn K cdWd "_law_word" = true)
    (kWd : PySem.W.keepIn K (.ref fWd) = true)
    (aRe : PySem.W.nsIn K mainGlobals "_law_refuses" = some (some (.ref fRe)))
    (lRe : K.lookup fRe = some ⟨ocRe, odRe, .func (PySem.W.fnOf "_law_refuses" "_law_refuses" (defArgs sRef) (defBody sRef) (defScope sRef) .none kVRe dcRe pmRe anRe (.ref cCRe) ctRe), slRe⟩)
    (cRe : PySem.W.codeIn K (.ref cCRe) "_law_refuses" = true)
    (kRe : PySem.W.keepIn K (.ref fRe) = true)
    (tCRe : K.lookup cCRe = some ⟨ccRe, cd'Re, .fields cvRe, csRe⟩)
    (tPRe : cvRe[11]? = some (.ref PTRe))
    (tNRe : K.lookup PTRe = none)
    (tHRe : PySem.W.codeHdIn K cCRe PTRe = true)
    (tTRe : h.get? PTRe = some { cls := .none, data := .fields #[] })
    (aLa : PySem.W.nsIn K mainGlobals "law" = some (some (.ref fLa)))
    (lLa : K.lookup fLa = some ⟨ocLa, odLa, .func (PySem.W.fnOf "law" "law" (defArgs sLaw) (defBody sLaw) (defScope sLaw) .none kVLa dcLa pmLa anLa (.ref cCLa) ctLa), slLa⟩)
    (cLa : PySem.W.codeIn K (.ref cCLa) "law" = true)
    (kLa : PySem.W.keepIn K (.ref fLa) = true)
    (tCLa : K.lookup cCLa = some ⟨ccLa, cd'La, .fields cvLa, csLa⟩)
    (tPLa : cvLa[11]? = some (.ref PTLa))
    (tNLa : K.lookup PTLa = none)
    (tHLa : PySem.W.codeHdIn K cCLa PTLa = true)
    (tTLa : h.get? PTLa = some { cls := .none, data := .fields #[] })
    (neT : PTRe ≠ PTLa)
    (hH : PySem.W.nsIn K mainGlobals "HandleError" = some (some (.ref cH)))
    (n0 : PySem.W.nsIn K mainGlobals "InvalidNumber" = some (some (.ref C0)))
    (n1 : PySem.W.nsIn K mainGlobals "InvalidName" = some (some (.ref C1)))
    (n2 : PySem.W.nsIn K mainGlobals "InvalidRow" = some (some (.ref C2)))
    (n3 : PySem.W.nsIn K mainGlobals "InvalidSort" = some (some (.ref C3)))
    (n4 : PySem.W.nsIn K mainGlobals "InvalidProgram" = some (some (.ref C4)))
    (n5 : PySem.W.nsIn K mainGlobals "InvalidText" = some (some (.ref C5)))
    (n6 : PySem.W.nsIn K mainGlobals "InvalidBook" = some (some (.ref C6)))
    (n7 : PySem.W.nsIn K mainGlobals "InvalidHands" = some (some (.ref C7)))
    (n8 : PySem.W.nsIn K mainGlobals "InvalidStep" = some (some (.ref C8)))
    (n9 : PySem.W.nsIn K mainGlobals "InvalidEdit" = some (some (.ref C9)))
    (n10 : PySem.W.nsIn K mainGlobals "InvalidCommand" = some (some (.ref C10)))
    (n11 : PySem.W.nsIn K mainGlobals "TooMany" = some (some (.ref C11)))
    (n12 : PySem.W.nsIn K mainGlobals "NothingToUndo" = some (some (.ref C12)))
    (iHI : PySem.W.findIn K (.ref cH) "__init__" = some (some (.ref fHI)))
    (lHI : K.lookup fHI = some ⟨ocHI, odHI, .func (PySem.W.fnOf "__init__" "HandleError.__init__" (defArgs sHInit) (defBody sHInit) (defScope sHInit) .none kVHI dcHI pmHI anHI cdHI ctHI), slHI⟩)
    (cHI : PySem.W.codeIn K cdHI "HandleError.__init__" = true)
    (kHI : PySem.W.keepIn K (.ref fHI) = true)
    (eT : errTab K [C0, C1, C2, C3, C4, C5, C6, C7, C8, C9, C10, C11, C12] cH = true)
    (e1 : K.lookup C1 = some (excClassObj nm1 q1 C1 N1 bs1 bm1 true sn1 sub1 ab1 col1 dd1 x01 x11 x21 x31 x51 "ValueError.__new__"))
    (m1 : PySem.HandSPX.refsVE bm1 = true)
    (r1 : erB K C1 fHI = true)
    (e8 : K.lookup C8 = some (excClassObj nm8 q8 C8 N8 bs8 bm8 true sn8 sub8 ab8 col8 dd8 x08 x18 x28 x38 x58 "ValueError.__new__"))
    (m8 : PySem.HandSPX.refsVE bm8 = true)
    (r8 : erB K C8 fHI = true)
    (hC : PySem.W.nsIn K mainGlobals "Notes" = some (some (.ref Cd)))
    (bCl : clsB K Cd = true)
    (nCl : noB K Cd ["_noted"] = true)
    (nqC : PySem.W.noSeq K Cd = true)
    (fmIn : PySem.W.findIn K (.ref Cd) "__init__" = some (some (.ref fIn)))
    (lIn : K.lookup fIn = some ⟨ocIn, odIn, .func (PySem.W.fnOf "__init__" "Notes.__init__" (defArgs sNtInit) (defBody sNtInit) (defScope sNtInit) .none kVIn dcIn pmIn anIn cdIn ctIn), slIn⟩)
    (cIn : PySem.W.codeIn K cdIn "Notes.__init__" = true)
    (kIn : PySem.W.keepIn K (.ref fIn) = true)
    (fnIn : PySem.W.isFn K (.ref fIn) = true)
    (fmSe : PySem.W.findIn K (.ref Cd) "__setitem__" = some (some (.ref fSe)))
    (lSe : K.lookup fSe = some ⟨ocSe, odSe, .func (PySem.W.fnOf "__setitem__" "Notes.__setitem__" (defArgs sNtSet) (defBody sNtSet) (defScope sNtSet) .none kVSe dcSe pmSe anSe cdSe ctSe), slSe⟩)
    (cSe : PySem.W.codeIn K cdSe "Notes.__setitem__" = true)
    (kSe : PySem.W.keepIn K (.ref fSe) = true)
    (fnSe : PySem.W.isFn K (.ref fSe) = true)
    (fmIt : PySem.W.findIn K (.ref Cd) "__getitem__" = some (some (.ref fIt)))
    (lIt : K.lookup fIt = some ⟨ocIt, odIt, .func (PySem.W.fnOf "__getitem__" "Notes.__getitem__" (defArgs sNtItem) (defBody sNtItem) (defScope sNtItem) .none kVIt dcIt pmIt anIt cdIt ctIt), slIt⟩)
    (cIt : PySem.W.codeIn K cdIt "Notes.__getitem__" = true)
    (kIt : PySem.W.keepIn K (.ref fIt) = true)
    (fnIt : PySem.W.isFn K (.ref fIt) = true)
    (fmIc : PySem.W.findIn K (.ref Cd) "__contains__" = some (some (.ref fIc)))
    (lIc : K.lookup fIc = some ⟨ocIc, odIc, .func (PySem.W.fnOf "__contains__" "Notes.__contains__" (defArgs sNtIn) (defBody sNtIn) (defScope sNtIn) .none kVIc dcIc pmIc anIc cdIc ctIc), slIc⟩)
    (cIc : PySem.W.codeIn K cdIc "Notes.__contains__" = true)
    (kIc : PySem.W.keepIn K (.ref fIc) = true)
    (fnIc : PySem.W.isFn K (.ref fIc) = true)
    (fmLn : PySem.W.findIn K (.ref Cd) "__len__" = some (some (.ref fLn)))
    (lLn : K.lookup fLn = some ⟨ocLn, odLn, .func (PySem.W.fnOf "__len__" "Notes.__len__" (defArgs sNtLen) (defBody sNtLen) (defScope sNtLen) .none kVLn dcLn pmLn anLn cdLn ctLn), slLn⟩)
    (cLn : PySem.W.codeIn K cdLn "Notes.__len__" = true)
    (kLn : PySem.W.keepIn K (.ref fLn) = true)
    (fnLn : PySem.W.isFn K (.ref fLn) = true)
    (fmLd : PySem.W.findIn K (.ref Cd) "listed" = some (some (.ref fLd)))
    (lLd : K.lookup fLd = some ⟨ocLd, odLd, .func (PySem.W.fnOf "listed" "Notes.listed" (defArgs sNtListed) (defBody sNtListed) (defScope sNtListed) .none kVLd dcLd pmLd anLd cdLd ctLd), slLd⟩)
    (cLd : PySem.W.codeIn K cdLd "Notes.listed" = true)
    (kLd : PySem.W.keepIn K (.ref fLd) = true)
    (fnLd : PySem.W.isFn K (.ref fLd) = true)
    (fiIt : PySem.W.fnIn K fIt = true)
    (u0 : PySem.W.nsIn K mainGlobals "LETTERS" = some (some v0))
    (w0 : Value.isStrOf letters v0 = true)
    (u1 : PySem.W.nsIn K mainGlobals "LONGEST_NAME" = some (some v1))
    (w1 : Value.isInt 8 v1 = true)
    (z_int : PySem.W.nsIn K mainGlobals "int" = some none)
    (z_abs : PySem.W.nsIn K mainGlobals "abs" = some none)
    (z_len : PySem.W.nsIn K mainGlobals "len" = some none)
    (z_str : PySem.W.nsIn K mainGlobals "str" = some none)
    (z_range : PySem.W.nsIn K mainGlobals "range" = some none)
    (z_isinstance : PySem.W.nsIn K mainGlobals "isinstance" = some none)
    (z_bool : PySem.W.nsIn K mainGlobals "bool" = some none)
    (z_repr : PySem.W.nsIn K mainGlobals "repr" = some none)
    (z_tuple : PySem.W.nsIn K mainGlobals "tuple" = some none)
    (z_all : PySem.W.nsIn K mainGlobals "all" = some none)
    (z_list : PySem.W.nsIn K mainGlobals "list" = some none)
    (z_set : PySem.W.nsIn K mainGlobals "set" = some none)
    (z_sorted : PySem.W.nsIn K mainGlobals "sorted" = some none)
    : ∃ (fd : FuncData) (cs : List (Addr × Addr)) (sp : Sp), (∀ p ∈ cs, h.get? p.2 = some { cls := .none, data := .fields #[] } ∧ K.lookup p.2 = none ∧ PySem.W.CodeHd h p.1 p.2) ∧
        (∀ (H : Hp) (a : Addr) (ns : List Int), ns.length ≤ 63 → (∀ z ∈ ns, Builtin.Int.intBits z ≤ 1048576) → (∀ p ∈ cs, H p.2 = some (.tbl #[])) → SqL K H a (ns.map V.int) → sp [.ref a] H (fun v _ => v = .bl true) fun _ _ _ => False) ∧
        (∀ (s : Shared) (u : Value), BindsTo s fd ⟨[u], []⟩ [("script", u)]) ∧
        ∀ base : Heap, K.In base → base.Ns mainGlobals mg → (∀ p ∈ cs, LamX.TabB base mg p.1 p.2) → FnG l.prog w K mg base CX0 10 fa fd ["script"] sp := by
  have e := hfa.symm.trans (PySem.W.mg_of X G aLa)
  cases e
  obtain ⟨t0, rfl⟩ := Value.isStrOf_shape w0
  obtain ⟨t1, rfl⟩ := Value.isInt_shape w1
  have FCo := fun_mk (st := sCount) lCo cCo kCo
  have FNm := fun_mk (st := sName) lNm cNm kNm
  have FSp := fun_mk (st := sStep) lSp cSp kSp
  have FLi := fun_mk (st := sListing) lLi cLi kLi
  have FBe := fun_mk (st := sBegin) lBe cBe kBe
  have FMi := fun_mk (st := sMixed) lMi cMi kMi
  have FDr := fun_mk (st := sDraw) lDr cDr kDr
  have FWh := fun_mk (st := sWhich) lWh cWh kWh
  have FCa := fun_mk (st := sCaught) lCa cCa kCa
  have FBa := fun_mk (st := sBad) lBa cBa kBa
  have FLs := fun_mk (st := sLSet) lLs cLs kLs
  have FWd := fun_mk (st := sWord) lWd cWd kWd
  have FHI := fun_mk (st := sHInit) lHI cHI kHI
  have FIn := fun_mk (st := sNtInit) lIn cIn kIn
  have FSe := fun_mk (st := sNtSet) lSe cSe kSe
  have FIt := fun_mk (st := sNtItem) lIt cIt kIt
  have FIc := fun_mk (st := sNtIn) lIc cIc kIc
  have FLn := fun_mk (st := sNtLen) lLn cLn kLn
  have FLd := fun_mk (st := sNtListed) lLd cLd kLd
  have FRe := fun_mk (st := sRef) lRe cRe kRe
  have gCo := PySem.W.mg_of X G aCo
  have gNm := PySem.W.mg_of X G aNm
  have gSp := PySem.W.mg_of X G aSp
  have gLi := PySem.W.mg_of X G aLi
  have gBe := PySem.W.mg_of X G aBe
  have gMi := PySem.W.mg_of X G aMi
  have gDr := PySem.W.mg_of X G aDr
  have gWh := PySem.W.mg_of X G aWh
  have gCa := PySem.W.mg_of X G aCa
  have gBa := PySem.W.mg_of X G aBa
  have gLs := PySem.W.mg_of X G aLs
  have gWd := PySem.W.mg_of X G aWd
  have gRe := PySem.W.mg_of X G aRe
  have BCo := FCo.binds (ps := ["value"]) fun _ _ _ _ _ _ us hl => match us, hl with | [_], _ => rfl
  have BNm := FNm.binds (ps := ["value"]) fun _ _ _ _ _ _ us hl => match us, hl with | [_], _ => rfl
  have BSp := FSp.binds (ps := ["value"]) fun _ _ _ _ _ _ us hl => match us, hl with | [_], _ => rfl
  have BLi := FLi.binds (ps := ["value"]) fun _ _ _ _ _ _ us hl => match us, hl with | [_], _ => rfl
  have BBe := FBe.binds (ps := ["script"]) fun _ _ _ _ _ _ us hl => match us, hl with | [_], _ => rfl
  have BMi := FMi.binds (ps := ["pool", "many"]) fun _ _ _ _ _ _ us hl => match us, hl with | [_, _], _ => rfl
  have BDr := FDr.binds (ps := ["pool", "many"]) fun _ _ _ _ _ _ us hl => match us, hl with | [_, _], _ => rfl
  have BWh := FWh.binds (ps := ["error"]) fun _ _ _ _ _ _ us hl => match us, hl with | [_], _ => rfl
  have BCa := FCa.binds (ps := ["call"]) fun _ _ _ _ _ _ us hl => match us, hl with | [_], _ => rfl
  have BBa := FBa.binds (ps := ["pool"]) fun _ _ _ _ _ _ us hl => match us, hl with | [_], _ => rfl
  have BLs := FLs.binds (ps := ["table", "name", "run"]) fun _ _ _ _ _ _ us hl => match us, hl with | [_, _, _], _ => rfl
  have BWd := FWd.binds (ps := ["pool"]) fun _ _ _ _ _ _ us hl => match us, hl with | [_], _ => rfl
  have BHI := FHI.binds (ps := ["self", "value"]) fun _ _ _ _ _ _ us hl => match us, hl with | [_, _], _ => rfl
  have BIn := FIn.binds (ps := ["self"]) fun _ _ _ _ _ _ us hl => match us, hl with | [_], _ => rfl
  have BSe := FSe.binds (ps := ["self", "at", "worth"]) fun _ _ _ _ _ _ us hl => match us, hl with | [_, _, _], _ => rfl
  have BIt := FIt.binds (ps := ["self", "at"]) fun _ _ _ _ _ _ us hl => match us, hl with | [_, _], _ => rfl
  have BIc := FIc.binds (ps := ["self", "x"]) fun _ _ _ _ _ _ us hl => match us, hl with | [_, _], _ => rfl
  have BLn := FLn.binds (ps := ["self"]) fun _ _ _ _ _ _ us hl => match us, hl with | [_], _ => rfl
  have BLd := FLd.binds (ps := ["self"]) fun _ _ _ _ _ _ us hl => match us, hl with | [_], _ => rfl
  have BRe := FRe.binds (ps := ["pool", "table"]) fun _ _ _ _ _ _ us hl => match us, hl with | [_, _], _ => rfl
  obtain ⟨cl, tyI, mk1, mk2⟩ := clsB_ok bCl
  have no := noB_ok nCl
  have err := errTab_ok eT
  have TC : NCls K mg Cd := ⟨cl, no _ (by simp), PySem.W.mg_of X G hC⟩
  have T : HTxt K mg cH [C0, C1, C2, C3, C4, C5, C6, C7, C8, C9, C10, C11, C12] := ⟨PySem.W.mg_none_of X G z_isinstance, PySem.W.mg_none_of X G z_repr, PySem.W.mg_of X G hH, PySem.W.mg_of X G n0, PySem.W.mg_of X G n1, PySem.W.mg_of X G n2, PySem.W.mg_of X G n3, PySem.W.mg_of X G n4, PySem.W.mg_of X G n5, PySem.W.mg_of X G n6, PySem.W.mg_of X G n7, PySem.W.mg_of X G n8, PySem.W.mg_of X G n9, PySem.W.mg_of X G n10, PySem.W.mg_of X G n11, PySem.W.mg_of X G n12,
    fun i hi => (exB_ok (err i hi).1).2.2, fun i hi => (exB_ok (err i (by omega)).1).1, fun i hi => (err i (by omega)).2.2.2.2 hi, fun i j hi hj => (err i hi).2.1 j hj, fun i hi => (err i hi).2.2.1, fun i hi => (err i hi).2.2.2.1⟩
  have PT : PTxt mg := ⟨PySem.W.mg_none_of X G z_int, PySem.W.mg_none_of X G z_abs, PySem.W.mg_none_of X G z_len, PySem.W.mg_none_of X G z_str, PySem.W.mg_none_of X G z_range⟩
  have MT : MTxt K mg := ⟨PySem.W.mg_none_of X G z_isinstance, PySem.W.mg_none_of X G z_int, PySem.W.mg_none_of X G z_bool, PySem.W.mg_none_of X G z_str, PySem.W.mg_none_of X G z_tuple, PySem.W.mg_none_of X G z_len, PySem.W.mg_none_of X G z_all, ⟨_, PySem.W.mg_of X G u0⟩, ⟨_, PySem.W.mg_of X G u1⟩⟩
  have TL : LTxt mg := ⟨PySem.W.mg_none_of X G z_list, PySem.W.mg_none_of X G z_set⟩
  have TN : NTxt mg := ⟨PySem.W.mg_none_of X G z_sorted⟩
  have TX : RTxt mg := ⟨PySem.W.mg_none_of X G z_repr⟩
  have E1' : ErrC K mg "InvalidName" C1 fHI := errC_mk (PySem.W.mg_of X G n1) e1 m1 r1
  have E8' : ErrC K mg "InvalidStep" C8 fHI := errC_mk (PySem.W.mg_of X G n8) e8 m8 r8
  refine ⟨PySem.W.fnOf "law" "law" (defArgs sLaw) (defBody sLaw) (defScope sLaw) .none kVLa dcLa pmLa anLa (.ref cCLa) ctLa, [(cCRe, PTRe), (cCLa, PTLa)], spLaw K PTRe PTLa, fun p hp => ?_, fun H a ns hl _ hc hS => ?_, fun s v => .of_eq rfl, fun base _ _ hTB => ?_⟩
  · rcases List.mem_cons.mp hp with rfl | hp
    · exact ⟨tTRe, tNRe, PySem.W.codeHd_of_K X tHRe⟩
    · rw [List.mem_singleton.mp hp]
      exact ⟨tTLa, tNLa, PySem.W.codeHd_of_K X tHLa⟩
  · exact ⟨a, ns, rfl, hS, hl, hc _ (List.mem_cons_self ..), hc _ (List.mem_cons_of_mem _ (List.mem_singleton.mpr rfl)), fun _ => rfl⟩
  · have GDr : FnOk l.prog w K mg base CX0 2 fDr _ ["pool", "many"] spDraw := ok_draw FDr PT FMi BMi gMi
    have GSe : FnOk l.prog w K mg base (L2.CX l.prog w) 3 fSe _ ["self", "at", "worth"] (spNtSet Cd C1 C8) := ok_ntSet FSe TC MT TL E1' E8' FHI BHI FNm BNm gNm FLi BLi gLi FSp BSp gSp (ok_step FSp MT FCo BCo gCo)
    have GIt : FnOk l.prog w K mg base (L2.CX l.prog w) 3 fIt _ ["self", "at"] (spNtItem Cd C1) := ok_ntItem FIt TC MT E1' FHI BHI FNm BNm gNm
    have GIc : FnOk l.prog w K mg base CX0 2 fIc _ ["self", "x"] (spNtIn Cd) := ok_ntIn FIc TC MT FNm BNm gNm
    have GRe := ok_ref (P := l.prog) (w := w) (base := base) (cs := [C0, C1, C2, C3, C4, C5, C6, C7, C8, C9, C10, C11, C12]) (C := Cd) (PT1 := PTLa) lRe cRe T TX (hTB (cCRe, PTRe) (List.mem_cons_self ..)) neT FBa BBa gBa (ok_bad FBa FDr BDr gDr GDr) FDr BDr gDr GDr FLs BLs gLs (ok_lset FLs GSe nqC fmSe fnSe BSe) fmIt fiIt fnIt GIt BIt fmIc fnIc GIc BIc FWh BWh gWh gCa kCa lCa cCa BCa
    exact ok_law lLa cLa T TX TN PT MT TC (hTB (cCLa, PTLa) (List.mem_cons_of_mem _ (List.mem_singleton.mpr rfl))) neT FBe BBe gBe (ok_begin FBe PT) FDr BDr gDr GDr FWd BWd gWd (ok_word FWd FDr BDr gDr GDr) kRe BRe gRe GRe
      ⟨mk1, fmIn, fnIn, mk2⟩ (ok_ntInit FIn TC) BIn nqC fmSe fnSe GSe BSe fmIt fiIt fnIt GIt BIt fmIc fnIc GIc BIc fmLn fnLn (ok_ntLen FLn TC MT) BLn ⟨fmLd, fnLd, kLd⟩ (ok_ntListed FLd TC MT TN) BLd FWh BWh gWh gCa kCa lCa cCa BCa
end Toy

open PySem PySem.W PyProof.Rows in
set_option maxRecDepth 100000 in
set_option maxHeartbeats 0 in
theorem PySem.Challenge.cw_handlesagain_k34_notes_holds : PySem.Challenge.rw_handlesagain_k34_notes.Holds := by
  w_on; o_law; k_head; (case hw => w_witness2)
  k_fill
  refine Toy.walkGT (l := PySem.Challenge.rw_handlesagain_k34_notes) (k := 10) (CX := fun _ => L2.CX0) rfl rfl ⟨rfl, by decide, by decide⟩ (fun w h Y => PySem.W.km_in_of Y) (fun _ _ _ _ _ z => z) ?F
  case F =>
    intro w mg fa h Y KX G hmg
    refine' Toy.all_mk KX G hmg ?aCo ?lCo ?cCo ?kCo ?aNm ?lNm ?cNm ?kNm ?aSp ?lSp ?cSp ?kSp ?aLi ?lLi ?cLi ?kLi ?aBe ?lBe ?cBe ?kBe ?aMi ?lMi ?cMi ?kMi ?aDr ?lDr ?cDr ?kDr ?aWh ?lWh ?cWh ?kWh ?aCa ?lCa ?cCa ?kCa ?aBa ?lBa ?cBa ?kBa ?aLs ?lLs ?cLs ?kLs ?aWd ?lWd ?cWd ?kWd ?aRe ?lRe ?cRe ?kRe ?tCRe ?tPRe ?tNRe ?tHRe ?tTRe ?aLa ?lLa ?cLa ?kLa ?tCLa ?tPLa ?tNLa ?tHLa ?tTLa ?neT ?hH ?n0 ?n1 ?n2 ?n3 ?n4 ?n5 ?n6 ?n7 ?n8 ?n9 ?n10 ?n11 ?n12 ?iHI ?lHI ?cHI ?kHI ?eT ?e1 ?m1 ?r1 ?e8 ?m8 ?r8 ?hC ?bCl ?nCl ?nqC ?fmIn ?lIn ?cIn ?kIn ?fnIn ?fmSe ?lSe ?cSe ?kSe ?fnSe ?fmIt ?lIt ?cIt ?kIt ?fnIt ?fmIc ?lIc ?cIc ?kIc ?fnIc ?fmLn ?lLn ?cLn ?kLn ?fnLn ?fmLd ?lLd ?cLd ?kLd ?fnLd ?fiIt ?u0 ?w0 ?u1 ?w1 ?z_int ?z_abs ?z_len ?z_str ?z_range ?z_isinstance ?z_bool ?z_repr ?z_tuple ?z_all ?z_list ?z_set ?z_sorted
    (case aCo => k_is)
    (case lCo => k_is)
    (case cCo => k_is)
    (case kCo => k_is)
    (case aNm => k_is)
    (case lNm => k_is)
    (case cNm => k_is)
    (case kNm => k_is)
    (case aSp => k_is)
    (case lSp => k_is)
    (case cSp => k_is)
    (case kSp => k_is)
    (case aLi => k_is)
    (case lLi => k_is)
    (case cLi => k_is)
    (case kLi => k_is)
    (case aBe => k_is)
    (case lBe => k_is)
    (case cBe => k_is)
    (case kBe => k_is)
    (case aMi => k_is)
    (case lMi => k_is)
    (case cMi => k_is)
    (case kMi => k_is)
    (case aDr => k_is)
    (case lDr => k_is)
    (case cDr => k_is)
    (case kDr => k_is)
    (case aWh => k_is)
    (case lWh => k_is)
    (case cWh => k_is)
    (case kWh => k_is)
    (case aCa => k_is)
    (case lCa => k_is)
    (case cCa => k_is)
    (case kCa => k_is)
    (case aBa => k_is)
    (case lBa => k_is)
    (case cBa => k_is)
    (case kBa => k_is)
    (case aLs => k_is)
    (case lLs => k_is)
    (case cLs => k_is)
    (case kLs => k_is)
    (case aWd => k_is)
    (case lWd => k_is)
    (case cWd => k_is)
    (case kWd => k_is)
    (case aRe => k_is)
    (case lRe => k_is)
    (case cRe => k_is)
    (case kRe => k_is)
    (case tCRe => k_is)
    (case tPRe => exact rfl)
    (case tNRe => kernel_rfl)
    (case tHRe => kernel_rfl)
    (case tTRe => exact PySem.W.km_tabs_of Y _ (by decide))
    (case aLa => k_is)
    (case lLa => k_is)
    (case cLa => k_is)
    (case kLa => k_is)
    (case tCLa => k_is)
    (case tPLa => exact rfl)
    (case tNLa => kernel_rfl)
    (case tHLa => kernel_rfl)
    (case tTLa => exact PySem.W.km_tabs_of Y _ (by decide))
    (case neT => decide)
    (case hH => k_is)
    (case n0 => k_is)
    (case n1 => k_is)
    (case n2 => k_is)
    (case n3 => k_is)
    (case n4 => k_is)
    (case n5 => k_is)
    (case n6 => k_is)
    (case n7 => k_is)
    (case n8 => k_is)
    (case n9 => k_is)
    (case n10 => k_is)
    (case n11 => k_is)
    (case n12 => k_is)
    (case iHI => k_is)
    (case lHI => k_is)
    (case cHI => k_is)
    (case kHI => k_is)
    (case eT => kernel_rfl)
    (case e1 => k_is)
    (case m1 => decide +kernel)
    (case r1 => kernel_rfl)
    (case e8 => k_is)
    (case m8 => decide +kernel)
    (case r8 => kernel_rfl)
    (case hC => k_is)
    (case bCl => kernel_rfl)
    (case nCl => kernel_rfl)
    (case nqC => k_is)
    (case fmIn => k_is)
    (case lIn => k_is)
    (case cIn => k_is)
    (case kIn => k_is)
    (case fnIn => k_is)
    (case fmSe => k_is)
    (case lSe => k_is)
    (case cSe => k_is)
    (case kSe => k_is)
    (case fnSe => k_is)
    (case fmIt => k_is)
    (case lIt => k_is)
    (case cIt => k_is)
    (case kIt => k_is)
    (case fnIt => k_is)
    (case fmIc => k_is)
    (case lIc => k_is)
    (case cIc => k_is)
    (case kIc => k_is)
    (case fnIc => k_is)
    (case fmLn => k_is)
    (case lLn => k_is)
    (case cLn => k_is)
    (case kLn => k_is)
    (case fnLn => k_is)
    (case fmLd => k_is)
    (case lLd => k_is)
    (case cLd => k_is)
    (case kLd => k_is)
    (case fnLd => k_is)
    (case fiIt => k_is)
    (case u0 => k_is)
    (case w0 => decide +kernel)
    (case u1 => k_is)
    (case w1 => decide +kernel)
    (case z_int => k_is)
    (case z_abs => k_is)
    (case z_len => k_is)
    (case z_str => k_is)
    (case z_range => k_is)
    (case z_isinstance => k_is)
    (case z_bool => k_is)
    (case z_repr => k_is)
    (case z_tuple => k_is)
    (case z_all => k_is)
    (case z_list => k_is)
    (case z_set => k_is)
    (case z_sorted => k_is)
