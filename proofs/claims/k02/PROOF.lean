import PyProof.Rows.All
import Wide.All
import OpenK.AllK
import Wide.FinOn
import HandS.ForMost
import HandS.Wide
import HandS.IsInst
import HandS.EndBits
import HandS.ExcInit
import HandS.ExcIs
import HandS.ExcField
import HandS.ExcValue
import PyProof.ExcBaseAll.OverflowError
import PyProof.ExcBaseAll.LookupError
import PyProof.ExcBaseAll.ValueError
import HandS.TupAny
import HandS.Walk
import HandS.TupMul
import PyProof.ReprRoads
import HandS.Lambda
import HandS.EndTab
import HandS.HotCalls
import HandS.TryMany
import PyProof.ReprLen
import HandS.MakeKwOnly
import HandS.Property
import HandS.FStr
import HandS.SlotsOwn
import HandS.WordsExc
import KE.KNestM
import HandS.Conv
import HandS.Style
import HandS.TryOnly
import HandS.RaiseMore
import HandS.TupAny
import HandS.Walk
import HandS.Strs
import HandS.Deep
import HandS.ExcInit
import HandS.WordsExc
import HandS.TupMul
import PySem.Challenge.RW_handlesagain_k02_sorts
set_option Elab.async false
set_option maxRecDepth 100000
set_option maxHeartbeats 2000000
namespace PySem
namespace ExK
open PySem.W PySem.Calls PyProof.Rows PySem.HandSPX
open Builtin Builtin.ObjectAttr
/-! ### an own exception class called with keywords -/
section
variable {M : Model} {A : Around} {E : Value → Shared → Prop} {h : Heap} {g : Array GenState} {d : Drawn} {t : Nat} {os : OsState}
  {nm q : Str} {C N : Addr} {bs bm bmB : List Value} {hdct : Bool} {sn : List Str} {sub : List Value} {ab : Bool} {col : Option Bool} {dd : Option Addr}
  {k0 k1 k2 k3 k5 : Option Value} {B newId initId : String} {xs : List Value} {kw : List (Str × Value)}
/-- bm has the built-in classes of bmB, and no other -/
def SameB (bm bmB : List Value) : Prop := ∀ X : String, bm.contains (.type X) = bmB.contains (.type X)
/-- the class at C -/
def ClsAt (h : Heap) (nm q : Str) (C N : Addr) (bs bm : List Value) (hdct : Bool) (sn : List Str) (sub : List Value) (ab : Bool) (col : Option Bool) (dd : Option Addr) (k0 k1 k2 k3 k5 : Option Value) (newId : String) : Prop :=
  h.get? C = some (excClassObj nm q C N bs bm hdct sn sub ab col dd k0 k1 k2 k3 k5 newId)
theorem sub_of (hT : SameB bm bmB) (X : String) : (Value.ref C :: bm).contains (.type X) = bmB.contains (.type X) := by
  rw [List.contains_cons, hT X]
  rfl
theorem ck_new (F : ExcBaseFacts B newId initId bmB) (hT : SameB bm bmB) {Q : Unit → Shared → Prop} (hC : ClsAt h nm q C N bs bm hdct sn sub ab col dd k0 k1 k2 k3 k5 newId)
    (hq : Q () ⟨h, g, d, t, os⟩) : wpAny M A (checkBuiltinCall newId ⟨.ref C :: xs, kw⟩) Q E ⟨h, g, d, t, os⟩ := by
  have e1 : (Value.ref C :: bm).contains (.type B) = true := (sub_of hT B).trans F.hasB
  have z9 := F.noStar
  unfold ClsAt at hC
  simp only [checkBuiltinCall, F.newKind, F.newSplit, F.newRow]
  repeat (first
    | refine wpAny_loadPart_at hC ?_
    | (refine wpAny_isSubtype_exc hC ?_
       rw [e1])
    | refine wpAny_staticBase_exc hC ?_
    | refine wpAny_madeBy_exc hC ?_
    | simp only [bne_self_eq_false, Bool.false_eq_true, if_false]
    | wp_step)
  exact hq
end
section
variable {prog : Program} {w : World} {A : Around} {E : Value → Shared → Prop} {R : Result → Shared → Prop} {h : Heap} {g : Array GenState} {d : Drawn} {t : Nat} {os : OsState}
  {nm q : Str} {C N : Addr} {bs bm bmB : List Value} {hdct : Bool} {sn : List Str} {sub : List Value} {ab : Bool} {col : Option Bool} {dd : Option Addr}
  {k0 k1 k2 k3 k5 : Option Value} {B newId initId : String} {xs : List Value} {kw : List (Str × Value)}
theorem nw_kw (F : ExcBaseFacts B newId initId bmB) (hT : SameB bm bmB) (hC : ClsAt h nm q C N bs bm hdct sn sub ab col dd k0 k1 k2 k3 k5 newId)
    (hq : R (.ok (.ret (.ref (h.objs.size + 1)))) ⟨(h.push (W.kdv_tup xs)).push (excO C h.objs.size), g, d, t, os⟩) (hl : xs.length ≤ sizeLine) :
    codeAny (model prog w) A (.builtin newId ⟨.ref C :: xs, kw⟩) R ⟨h, g, d, t, os⟩ := by
  have z0 := F.ends
  have z1 : (Value.ref C :: bm).contains (.type B) = true := (sub_of hT B).trans F.hasB
  have z2 : (Value.ref C :: bm).contains (.type "AttributeError") = false := (sub_of hT _).trans F.noAttr
  have z3 : (Value.ref C :: bm).contains (.type "NameError") = false := (sub_of hT _).trans F.noName
  unfold ClsAt at hC
  apply codeAny_builtinAt F.entry
  unfold Builtin.«BaseException.__new__»
  apply wpAt_bind
  show wpAt _ _ _ (stack >>= _) _ _ _
  refine wpAt_bind (wpAt_stack fun p below => wpAt_of_wpAny ?_)
  wp_walk
  apply wpAt_of_wpAny
  rw [F.owner]
  repeat (first
    | with_reducible refine wpAny_madeHere_exc F.canon hC ?_
    | with_reducible refine wpAny_loadPart_at hC ?_
    | (with_reducible refine wpAny_isSubtype_exc hC ?_
       first | rw [z1] | rw [z2] | rw [z3])
    | wp_step)
  show R _ _
  rw [Heap.size_push]
  exact hq
theorem ck_call {M : Model} {Q : Unit → Shared → Prop} (hC : ClsAt h nm q C N bs bm hdct sn sub ab col dd k0 k1 k2 k3 k5 newId) (hq : Q () ⟨h, g, d, t, os⟩) :
    wpAny M A (checkBuiltinCall "type.__call__" ⟨.ref C :: xs, kw⟩) Q E ⟨h, g, d, t, os⟩ := by
  have z0 := tc_sub
  unfold ClsAt at hC
  have z1 : (⟨h, g, d, t, os⟩ : Shared).TypeIs (.ref C) "type" := ⟨_, hC, rfl⟩
  simp only [checkBuiltinCall, tc_kind, tc_split]
  repeat (any_goals (first
    | assumption
    | with_reducible refine wpAny_loadPart_at hC ?_
    | with_reducible refine wpAny_onRaise ?_
    | with_reducible refine wpAny_map ?_
    | wp_step))
/-- what __init__ hands back is None -/
def BackI (a : Addr) (E : Value → Shared → Prop) (Q : Fin → Shared → Prop) : Result → Shared → Prop := fun r s' => match r with
  | .ok (.ret v) => v = .none ∧ Q (.done (.ret (.ref a))) s'
  | .ok _ => False
  | .error e => E e s'
theorem tc_kw {fI : Addr} {Q : Fin → Shared → Prop} (F : ExcBaseFacts B newId initId bmB) (hT : SameB bm bmB) (hC : ClsAt h nm q C N bs bm hdct sn sub ab col dd k0 k1 k2 k3 k5 newId)
    (hi : W.Looks (model prog w) h (typeLookup (.ref C) "__init__") (some (.ref fI))) (hb : ∀ v, W.Looks (model prog w) h (bindSpecial (.ref fI) v) (.ref fI, [v])) (hl : xs.length ≤ sizeLine)
    (hq : codeAny (model prog w) A (.call (.ref fI) ⟨.ref (h.objs.size + 1) :: xs, kw⟩) (BackI (h.objs.size + 1) E Q) ⟨(h.push (W.kdv_tup xs)).push (excO C h.objs.size), g, d, t, os⟩) :
    wpAny (model prog w) A (Builtin.«type.__call__» ⟨.ref C :: xs, kw⟩) Q E ⟨h, g, d, t, os⟩ := by
  have hC0 := hC
  unfold ClsAt at hC
  repeat (first
    | with_reducible refine wpAny_loadPart_at hC ?_
    | with_reducible refine wpAny_madeBy_exc hC ?_
    | wp_step)
  apply codeAny_call_builtin_code (Code.quiet_builtin _ F.quiet) (ck_new F hT hC0 _)
  refine nw_kw F hT hC0 ?_ hl
  show wpAny _ _ _ _ _ _
  have kp : ∀ b o, h.get? b = some o → ((h.push (W.kdv_tup xs)).push (excO C h.objs.size)).get? b = some o := fun b o e =>
    Heap.get?_push_of_some _ (Heap.get?_push_of_some _ e)
  have y1 := kp _ _ hC
  have y2 : ((h.push (W.kdv_tup xs)).push (excO C h.objs.size)).get? (h.objs.size + 1) = some (excO C h.objs.size) := by
    heap_get
  have y3 : (Value.ref C :: bm).contains (.ref C) = true := by
    simp
  have y4 := hi.keeps kp
  have y5 := (hb (.ref (h.objs.size + 1))).keeps kp
  unfold isInstance
  repeat (first
    | with_reducible refine wpAny_loadPart_at y2 ?_
    | (with_reducible refine wpAny_isSubtype_exc y1 ?_
       rw [y3])
    | wp_step)
  show wpAny _ _ (typeLookup (.ref C) _) _ _ _
  refine y4.at ?_
  refine wpAny_holding (wpAny_bind (y5.at ?_))
  refine wpAny_bind (wpAny_call (codeAny_mono hq fun r s' z => ?_))
  cases r with
  | error e => exact z
  | ok fl =>
    cases fl with
    | ret v =>
      obtain ⟨rfl, z⟩ := z
      first
        | exact wpAny_pure (wpAny_pure z)
        | (wp_walk
           exact z)
    | next => exact z.elim
    | brk => exact z.elim
    | cont => exact z.elim
theorem own_kw {fI : Addr} (F : ExcBaseFacts B newId initId bmB) (hT : SameB bm bmB) (hC : ClsAt h nm q C N bs bm hdct sn sub ab col dd k0 k1 k2 k3 k5 newId)
    (hi : W.Looks (model prog w) h (typeLookup (.ref C) "__init__") (some (.ref fI))) (hb : ∀ v, W.Looks (model prog w) h (bindSpecial (.ref fI) v) (.ref fI, [v])) (hl : xs.length ≤ sizeLine)
    (hq : codeAny (model prog w) (A.under (.builtin "type.__call__" ⟨.ref C :: xs, kw⟩)) (.call (.ref fI) ⟨.ref (h.objs.size + 1) :: xs, kw⟩) (W.InitBack (h.objs.size + 1) R)
      ⟨(h.push (W.kdv_tup xs)).push (excO C h.objs.size), g, d, t, os⟩) :
    codeAny (model prog w) A (.call (.ref C) ⟨xs, kw⟩) R ⟨h, g, d, t, os⟩ := by
  have x1 := tc_lookup
  have x2 := tc_bind (.ref C)
  have hC0 := hC
  unfold ClsAt at hC
  have x3 : (⟨h, g, d, t, os⟩ : Shared).TypeIs (.ref C) "type" := ⟨_, hC, rfl⟩
  apply codeAny_of_tree
  show wpAny _ _ (callAny (.ref C) _) _ _ _
  repeat (any_goals (first
    | assumption
    | with_reducible refine wpAny_loadPart_at hC ?_
    | wp_step))
  refine ⟨rfl, ?_⟩
  refine codeAny_call_builtin_at (Code.quiet_builtin _ (by decide +kernel)) entry_typeCall (ck_call hC0 (tc_kw F hT hC0 hi hb hl ?_))
  refine codeAny_mono hq fun r s' z => ?_
  rcases r with e | (v | _ | _ | _) <;> exact z
end
/-! ### self.f = v on such an exception -/
def MroOk (l : List Value) : Prop := (∀ v, refuseLoop v "__setattr__" l = pure ()) ∧ l.isEmpty = false ∧ l.contains (.type "object") = true
section
variable {prog : Program} {w : World} {A : Around} {E : Value → Shared → Prop} {R : Result → Shared → Prop} {hp : Heap} {g : Array GenState} {d : Drawn} {t : Nat} {os : OsState}
theorem st_gen {K : W.Frag} {f : Str} {tk : Tok} {v : Value} {x C : Addr} {fv : Array Value} {cd : ClassData} (X : K.In hp) (hx : hp.get? x = some { cls := .ref C, data := .fields fv })
    (hcd : W.clsIn K C = some cd) (hm : MroOk cd.mro) (hh : cd.hasDict = true) (ha : W.findIn K (.ref C) f = some none)
    (hq : ∀ h' tk' dx, (∀ b o, b ≠ x → hp.get? b = some o → h'.get? b = some o) → hp.objs.size ≤ dx → dx ≠ x → h'.get? x = some { cls := .ref C, dict := some dx, data := .fields fv } →
      h'.Ns1 dx (fun y => if y = f then some v else none) → R (.ok (.ret .none)) ⟨h', g, d, tk', os⟩) :
    codeAny (model prog w) A (.call (.builtin "object.__setattr__") ⟨[.ref x, .str f tk, v], []⟩) R ⟨hp, g, d, t, os⟩ := by
  obtain ⟨m1, m2, m3⟩ := hm
  have J : W.InstAt hp x { cls := .ref C, data := .fields fv } C none := ⟨hx, rfl, rfl, trivial⟩
  have S := F.store_object
  have nx : x ≠ hp.objs.size := Nat.ne_of_lt (Heap.lt_size hx)
  have e0 : W.mroIn K C (.type "object") = some true := by
    unfold W.mroIn
    rw [hcd, Option.bind_some, if_neg (by rw [m2]; decide), m3]
  have e1 : W.Looks (model prog w) hp (isInstance (.ref x) (.type "object")) true :=
    J.type.andThen (W.looks_mroIn X e0)
  have e2 : W.Looks (model prog w) hp (mroOf (.ref C)) cd.mro := (W.looks_clsIn X hcd).andThen .now
  have e3 : W.Looks (model prog w) hp (storeTaker? none) none := .now
  have e4 : W.Looks (model prog w) hp (classData C) cd := W.looks_clsIn X hcd
  refine codeAny_call_builtin S.slot.plain S.entry ?_
  refine @W.check_slot (model prog w) _ _ ⟨hp, g, d, t, os⟩ "object.__setattr__" "object" "__setattr__" (.ref x) [.str f tk, v] [] _ S.kind S.split e1 (S.args (.ref x) (.str f tk) v) ?_
  rw [W.osa_eq, refuse_eq]
  refine wpAny_bind (wpAny_bind (J.type.at (wpAny_bind (e2.at ?_))))
  rw [m1]
  refine wpAny_pure (wpAny_bind (J.type.at (wpAny_bind ?_)))
  refine (W.looks_findIn X ha).at (wpAny_bind (e3.at ?_))
  show wpAny _ _ (storeInOwnDict (.ref x) (.ref C) (.str f tk) f v false) _ _ _
  obtain ⟨nm, bs, mro, ns, qn, hd, sn, sb, ab, col, del⟩ := cd
  dsimp only at hh
  subst hh
  unfold storeInOwnDict ownDictForStores
  repeat (first
    | with_reducible refine store_in_new ?_ ?_
    | with_reducible refine wpAny_loadPart_at hx ?_
    | with_reducible refine e4.at ?_
    | wp_step)
  · have y : (hp.push { cls := .type "dict", data := .dict #[] }).get? hp.objs.size = _ := Heap.get?_push_at rfl rfl
    exact ⟨_, #[], _, (Heap.get?_update_ne _ _ _ _ nx.symm).trans y, rfl, fun e he => absurd he (by simp), fun _ => rfl⟩
  · intro h' tk' hn' hs
    have y : (hp.push { cls := .type "dict", data := .dict #[] }).get? x = some { cls := .ref C, data := .fields fv } :=
      Heap.get?_push_of_some _ hx
    refine hq h' tk' hp.objs.size (fun b o hb ho => ?_) (Nat.le_refl _) nx.symm ?_ hn'
    · have z := Heap.get?_push_of_some { cls := .type "dict", data := .dict #[] } ho
      exact (hs.2 b (Nat.ne_of_lt (Heap.lt_size ho))).trans ((Heap.get?_update_ne _ _ _ _ hb).trans z)
    · exact (hs.2 x nx).trans (Heap.get?_update_self _ y rfl)
end
end ExK
namespace W
open PySem PySem.Spec PySem.Calls PyProof.Rows
section
variable {prog : Program} {w : World} {A : Around} {E : Value → Shared → Prop} {s : Shared} {K : Frag} {x D : Addr} {ox : Obj} {od : Option Obj}
/-- x.__class__, x an exception, with a dict or without -/
theorem exk_class {Q : Option Value → Shared → Prop} (ga : findIn K (.ref D) "__getattribute__" = some (some (.builtin "BaseException.__getattribute__")))
    (gg : findIn K (.ref D) "__getattr__" = some none) (sb : subIn K (.ref D) (.type "BaseException") = some true) (hf : findObj K D od "__class__" = some (.bind (.builtin "getset_descriptor.__get__") (.builtin "object.__class__")))
    (hm : mroIn K D (.type "object") = some true) (X : K.In s.heap) (I : InstAt s.heap x ox D od) (h : Q (some (.ref D)) { s with toks := s.toks + 1 }) :
    wpAny (model prog w) A (getAttr? (.ref x) "__class__") Q E s := by
  obtain ⟨hp, g, d, t, os⟩ := s
  have l0 := I.type (M := model prog w)
  have l1 := looks_findIn (M := model prog w) X ga
  have l2 := looks_findIn (M := model prog w) X gg
  have l3 := looks_find (M := model prog w) X I hf
  have l4 : Looks (model prog w) hp (isInstance (.ref x) (.type "BaseException")) true :=
    l0.andThen (looks_subIn X sb)
  have b0 : (false && onTheHeap (Value.builtin "BaseException.__getattribute__")) = false := rfl
  have b1 : (onTheHeap (Value.ref D) && Value.builtin "BaseException.__getattribute__" == Value.builtin "object.__getattribute__") = false := by
    rw [show (Value.builtin "BaseException.__getattribute__" == Value.builtin "object.__getattribute__") = false by decide +kernel]
    rfl
  unfold getAttr? getAttrBy? getAttrBy
  refine wpAny_bind (wpAny_mkText (wpAny_bind (wpAny_attempt ?_)))
  refine wpAny_holding (wpAny_bind (l0.at (wpAny_bind (l1.at ?_))))
  show wpAny _ _ (if (onTheHeap (Value.ref D) && Value.builtin "BaseException.__getattribute__" == Value.builtin "object.__getattribute__") = true
    then _ else _) _ _ _
  rw [b1, if_neg Bool.false_ne_true]
  unfold getAttrByItsOwn hookBefore
  apply wpAny_bind
  rw [if_pos (show onTheHeap (Value.ref D) = true from rfl)]
  apply l2.at
  apply wpAny_bind
  refine wpAny_attempt (wpAny_holding ?_)
  unfold callGetattribute
  rw [b0, if_neg Bool.false_ne_true]
  unfold boundAndCalled
  rw [PySem.F.excAttr_ValueError.ga.bind (.ref x)]
  refine wpAny_bind (wpAny_pure ?_)
  show wpAny _ _ (call (.builtin "BaseException.__getattribute__")
    [.ref x, .str "__class__" t]) _ _ _
  apply wpAny_call
  apply codeAny_call_builtin PySem.F.excAttr_ValueError.ga.plain PySem.F.entry_bexc_ga
  refine @check_slot (model prog w) _ _ ⟨hp, g, d, t + 1, os⟩ "BaseException.__getattribute__" "BaseException" "__getattribute__" (.ref x)
    [.str "__class__" t] [] _ (by decide +kernel) (by decide +kernel) l4 (PySem.F.args_bexc_ga (.ref x) (.str "__class__" t)) ?_
  unfold Builtin.«object.__getattribute__»
  refine wpAny_bind (wpAny_of_eq (a := ((Value.ref x : Value), [Value.str "__class__" t])) (by
    first
      | rfl
      | (simp only [slotArgs]
         rfl)) ?_)
  refine wpAny_bind (wpAny_pure (wpAny_bind (l0.at ?_)))
  refine wpAny_bind (l3.at ?_)
  show wpAny _ _ (holding [Value.builtin "object.__class__"]
    (call (.builtin "getset_descriptor.__get__") [.builtin "object.__class__", .ref x, .ref D]) >>= ret) _ _ _
  refine wpAny_bind (wpAny_holding (wpAny_call ?_))
  refine class_get (s := ⟨hp, g, d, t + 1, os⟩) (ox := ox) (od := od) X I hm ?_
  apply wpAny_pure
  show wpAny _ _ (handedOut (.ref D)) _ _ _
  rw [handedOut_of (v := .ref D) rfl]
  first
    | exact wpAny_pure (wpAny_pure h)
    | exact wpAny_pure h
    | exact wpAny_pure (wpAny_bind (wpAny_pure (wpAny_pure h)))
theorem exk_kit (ga : findIn K (.ref D) "__getattribute__" = some (some (.builtin "BaseException.__getattribute__"))) (gg : findIn K (.ref D) "__getattr__" = some none)
    (sb : subIn K (.ref D) (.type "BaseException") = some true) (hd : hasDictIn K D = true) (hf : findObj K D od "__class__" = some (.bind (.builtin "getset_descriptor.__get__") (.builtin "object.__class__")))
    (hm : mroIn K D (.type "object") = some true) : KitX K (.ref x) (.ref D) (fun h => InstAt h x ox D od) := by
  have there : ∀ h : Heap, K.In h → ∃ o : Obj, h.get? D = some o ∧ (∀ its n, o.data ≠ .seq its n) ∧ ∃ cd, o.data = .cls cd := fun h X => by
    obtain ⟨cd, hc, _⟩ := any_some hd
    unfold clsIn at hc
    split at hc
    · rename_i ho
      exact ⟨_, X _ _ ho, fun _ _ z => (nomatch z), _, rfl⟩
    · cases hc
  refine ⟨fun _ _ _ I => I.type, fun M h X _ => ?_, fun h tp dd its n sl X htp => ?_, fun X I k => exk_class ga gg sb hf hm X I k⟩
  · obtain ⟨o, ho, _, cd, hcd⟩ := there h X
    obtain ⟨oc, odd, oda, osl⟩ := o
    dsimp only at hcd
    subst hcd
    intro A' Q' E' s' k q
    unfold isType loadHead
    exact wpAny_bind (wpAny_loadPart (k _ _ ho) (wpAny_pure q))
  · refine Bool.eq_false_iff.mpr fun q => ?_
    obtain rfl : D = tp := Value.ref.inj (beq_iff_eq.mp q)
    obtain ⟨o, ho, hn, _⟩ := there h X
    rw [ho] at htp
    cases htp
    exact hn _ _ rfl
end
end W
end PySem
namespace L2
open PySem PySem.Spec PyProof.Rows PySem.ExK
/-- what the written part says of an own exception class at C, of whatever base -/
structure ExvC (K : PySem.W.Frag) (C : Addr) : Prop where
  cls : ∃ nm q N bs bm sn sub ab col dd k0 k1 k2 k3 k5 B newId initId bmB, K.lookup C = some (excClassObj nm q C N bs bm true sn sub ab col dd k0 k1 k2 k3 k5 newId) ∧
    ExcBaseFacts B newId initId bmB ∧ SameB bm bmB ∧ MroOk (.ref C :: bm)
  sa : PySem.W.findIn K (.ref C) "__setattr__" = some (some (.builtin "object.__setattr__"))
  kC : PySem.W.keepIn K (.ref C) = true
section
variable {X : Cx} {pins : List (Addr × Obj)} {σ : St} {H : Hp} {s : Shared} {a C dx : Addr} {f : Str} {y : V} {u : Value}
theorem st_ex (T : ExvC X.K C) (I : Inv X pins σ H s) (e : H a = some (exo a C none)) (hno : PySem.W.findIn X.K (.ref C) f = some none) (ry : RelV y u) {A : Around} {Q : Unit → Shared → Prop} {E : Value → Shared → Prop}
    (h : ∀ dx s', H dx = none → dx ≠ a → Inv X pins σ (upd (upd H dx (exd dx [(f, y)])) a (exo a C (some dx))) s' → Q () s') : wpAny (model X.prog X.w) A (setAttr (.ref a) f u) Q E s := by
  obtain ⟨nm, q, N, bs, bm, sn, sub, ab, col, dd, k0, k1, k2, k3, k5, B, newId, initId, bmB, hC, FB, hS, hM⟩ := T.cls
  obtain ⟨cd, hcd, c1, c2⟩ : ∃ cd : ClassData, PySem.W.clsIn X.K C = some cd ∧ cd.mro = .ref C :: bm ∧ cd.hasDict = true := by
    unfold PySem.W.clsIn
    rw [hC]
    exact ⟨_, rfl, rfl, rfl⟩
  obtain ⟨t1, ho⟩ := exo_at I.hok e
  obtain ⟨hp, g, d, t, os⟩ := s
  have J : PySem.W.InstAt hp a ({ cls := .ref C, dict := none, data := .fields #[.ref t1, .none, .none, .none, .bool false, .none] } : Obj) C none := ⟨ho, rfl, rfl, trivial⟩
  refine PySem.W.set_plain I.kIn J T.sa (st_gen I.kIn ho hcd (by rw [c1]; exact hM) c2 hno fun h' tk' dx k dn dne hx hn => ?_)
  have hnd : H dx = none := I.hok.fresh dn
  have n1 : ∀ {b : Addr} {o : Obj}, hp.get? b = some o → b ≠ dx := fun {b o} q =>
    Nat.ne_of_lt (Nat.lt_of_lt_of_le (Heap.lt_size q) dn)
  have n2 : ∀ {b : Addr}, H b = none → b ≠ a := fun {b} n z => by
    rw [z, e] at n
    cases n
  have stay : ∀ {b : Addr} {o : HO}, H b = some o → exo a C none ≠ o → (upd (upd H dx (exd dx [(f, y)])) a (exo a C (some dx))) b = some o := fun {b o} q n => by
    rw [upd_ne (at_ne e q n), upd_ne (ne_of_none q hnd)]
    exact q
  have U : Un X.fs [] H (upd (upd H dx (exd dx [(f, y)])) a (exo a C (some dx))) hp h' := {
    keep := fun b o q n _ _ => k b o (n2 n) q
    slot := fun b o q n _ _ => ⟨o.slots, k b o (n2 n) q⟩
    free := fun b o q n _ => by
      rw [upd_ne (n2 n), upd_ne (n1 q)]
      exact n
    there := fun b o q _ => by
      by_cases hb : b = a
      · subst hb
        exact ⟨_, hx⟩
      · exact ⟨o, k b o hb q⟩
    tups := fun b xs q => stay q exo_tup
    frzs := fun b o v q => stay q exo_frz
    tbls := fun b ps q => ⟨#[], by rw [stay q exo_tbl]; simp⟩ }
  refine h dx _ hnd dne (I.un (t' := tk') U fun b o q => ?_)
  by_cases hb : b = a
  · subst hb
    rw [upd_same] at q
    cases q
    exact exo_ok hx
  rw [upd_ne hb] at q
  by_cases hd : b = dx
  · subst hd
    rw [upd_same] at q
    cases q
    exact exd_ok hn (relO_put (fs := []) ry fun g => True.intro)
  rw [upd_ne hd] at q
  refine (I.hok b o q).stay (fun c v hc z => k c v (fun e2 => ?_) z) (fun c hc => stay hc exo_own) (fun c xs hc => stay hc exo_tup)
  rcases hc with hc | hc
  · exact hb (hc.symm.trans e2)
  · exact at_ne e hc exo_own e2
/-- self.f = e, self an exception that has no field yet -/
def tStx (K : PySem.W.Frag) (f : Str) (to te : TE) : TS := fun D σ H => te σ H fun y H1 => to σ H1 fun x H2 => ∃ a C : Addr, x = .ref a ∧ ExvC K C ∧ PySem.W.findIn K (.ref C) f = some none ∧
  H2 a = some (exo a C none) ∧ ∀ dx, H2 dx = none → dx ≠ a → D.nx σ (upd (upd H2 dx (exd dx [(f, y)])) a (exo a C (some dx)))
end
section
variable {X : Cx} {o e : Expr} {es : List Expr} {to te : TE} {ta tk : TA} {f : Str} {p p' pos : Pos}
theorem ps_stx (ho : PE X o to) (he : PE X e te) (hs : swapsWith e (some (.Attribute o f p')) pos.line X.env = pure false := by rfl) :
    PS X (.Assign [.Attribute o f p'] e pos) (tStx X.K f to te) := by
  constructor
  intro pins s σ H D I h
  refine plainObj_wpAny_Assign_Attribute (thn (he.run pins s σ H _ I h) fun v s1 ⟨y, H1, I1, r1, q1⟩ => ?_) hs
  refine thn (ho.run pins s1 σ H1 _ I1 q1) fun u s2 ⟨x, H2, I2, r2, a, C, ex, T, hno, ea, q⟩ => ?_
  subst ex
  obtain rfl : u = Value.ref a := r2
  exact st_ex T I2 ea hno r1 fun dx s' n ne J => ⟨σ, _, J, q dx n ne⟩
/-- the making: us, the positional values; kw, the keywords; ws, what the parameters get -/
theorem run_ex {pins : List (Addr × Obj)} {σ : St} {H1 : Hp} {s1 : Shared} {Q : VK} {C fI : Addr} {k : Nat} {fd : FuncData} {ps : List Str} {sp : Sp} {CX : CXT} (T : ExvC X.K C) (iC : PySem.W.findIn X.K (.ref C) "__init__" = some (some (.ref fI)))
    (tI : PySem.W.typeIn X.K (.ref fI) = some (.type "function")) (F1 : FnOk X.prog X.w X.K X.mg X.base CX k fI fd ps sp) (hr : Room (k + 1) X.A) (hx : Passes CX X (fun _ _ _ => False)) (I1 : Inv X pins σ H1 s1)
    {us ws : List Value} {vs : List V} {kw : List (Str × Value)} (hl : us.length ≤ 1000) (rv : Vals vs ws) (hb : ∀ (s : Shared) (r : Value), BindsTo s fd ⟨r :: us, kw⟩ (ps.zip (r :: ws)))
    (h : ∀ a, H1 a = none → sp (.ref a :: vs) (upd H1 a (exo a C none)) (fun v H2 => v = .non ∧ Q (.ref a) H2) (fun _ _ _ => False)) :
    wpAny (model X.prog X.w) X.A (call (.ref C) us kw) (EP X pins σ Q) X.xe s1 := by
  obtain ⟨nm, q, N, bs, bm, sn, sub, ab, col, dd, k0, k1, k2, k3, k5, B, newId, initId, bmB, hC, FB, hS, hM⟩ := T.cls
  obtain ⟨hp, g, dr, tk, os⟩ := s1
  have z1 : hp.objs.size ≤ hp.objs.size + 1 := Nat.le_succ _
  have hq := h (hp.objs.size + 1) (I1.hok.fresh z1)
  have kk : ∀ b o, hp.get? b = some o → ((hp.push (PySem.W.kdv_tup us)).push (PySem.HandSPX.excO C hp.objs.size)).get? b = some o := fun b o e =>
    Heap.get?_push_of_some _ (Heap.get?_push_of_some _ e)
  have z2 : ((hp.push (PySem.W.kdv_tup us)).push (PySem.HandSPX.excO C hp.objs.size)).get? (hp.objs.size + 1) = some (PySem.HandSPX.excO C hp.objs.size) := by
    heap_get
  have I2 : Inv X pins σ (upd H1 (hp.objs.size + 1) (exo (hp.objs.size + 1) C none)) ⟨(hp.push (PySem.W.kdv_tup us)).push (PySem.HandSPX.excO C hp.objs.size), g, dr, tk, os⟩ :=
    I1.laid (t' := tk) (a := hp.objs.size + 1) (o := exo (hp.objs.size + 1) C none) kk z1 (exo_ok z2)
  have r2 : Vals (V.ref (hp.objs.size + 1) :: vs) (Value.ref (hp.objs.size + 1) :: ws) := .cons rfl rv
  have hus : us.length ≤ sizeLine := Nat.le_trans hl (by decide)
  have run := F1.run _ X.stack _ _ ⟨Value.ref (hp.objs.size + 1) :: us, kw⟩ (Value.ref (hp.objs.size + 1) :: ws) _ _ (fun _ _ _ => False) (hr.make C us kw) (I2.env0.make C us kw) (hb _ _) r2 hq
  refine wpAny_call (own_kw FB hS (I1.kIn _ _ hC) (PySem.W.looks_findIn I1.kIn iC) (fun v => PySem.W.bind_fn I1.kIn v tI) hus (codeAny_mono run fun r s' hq' => ?_))
  cases r with
  | error er => exact hx pins σ _ _ er s' I2 hq'
  | ok fl =>
    cases fl with
    | ret u =>
      obtain ⟨v, H', I3, rv, ev, q3⟩ := I2.after hq'
      subst ev
      exact ⟨rv, ⟨V.ref (hp.objs.size + 1), H', I3, rfl, q3⟩⟩
    | next => exact False.elim hq'
    | brk => exact False.elim hq'
    | cont => exact False.elim hq'
/-- C(e, ..) | C(k = e, ..): an own exception with its own __init__, as a value -/
def tExv (C : Addr) (sp : Sp) (ta : TA) : TE := fun σ H Q => ta σ H fun vs H1 => vs.length = 1 ∧ ∀ a, H1 a = none → sp (.ref a :: vs) (upd H1 a (exo a C none)) (fun v H2 => v = .non ∧ Q (.ref a) H2) (fun _ _ _ => False)
variable {CX : CXT} {x : Str} {C fI : Addr} {k : Nat} {fd : FuncData} {ps : List Str} {sp : Sp}
theorem pe_exv (T : ExvC X.K C) (iC : PySem.W.findIn X.K (.ref C) "__init__" = some (some (.ref fI))) (tI : PySem.W.typeIn X.K (.ref fI) = some (.type "function")) (F1 : FnOk X.prog X.w X.K X.mg X.base CX k fI fd ps sp)
    (hr : Room (k + 1) X.A) (hb : ∀ (s : Shared) (r u : Value), BindsTo s fd ⟨[r, u], []⟩ (ps.zip [r, u])) (hx : Passes CX X (fun _ _ _ => False)) (hg : Gl X x) (hm : X.mg x = some (.ref C)) (ha : PA X [e] ta)
    (hdb : (x == ("__debug__" : Str)) = false := by decide) (he : starEach [e] X.env = (false, eval e X.env) :: starEach [] X.env := by rfl) (hpl : (backTo pos (starEach [] X.env)).any (·.1) = false := by rfl) :
    PE X (.Call (.Name x p) [e] [] pos) (tExv C sp ta) := by
  constructor
  intro pins s σ H Q I h
  refine wpAny_Call_Name_kw (ld_glob I hg hm ?_ hdb)
  refine PySem.W.callWith_K (h₀ := X.base) I.ok.mod.kin T.kC (thn (ha.run pos pins s σ H _ I h) fun us s1 ⟨vs, H1, I1, r1, hz, q1⟩ => ⟨I1.kIn, ?_⟩) he hpl
  match vs, hz, r1 with
  | [v], _, r1 =>
    obtain ⟨u, rfl, ru⟩ := vals1 r1
    exact run_ex (us := [u]) T iC tI F1 hr hx I1 (show 1 ≤ 1000 by decide) r1 (fun s r => hb s r u) q1
theorem pe_exvK {kws : List Keyword} {kn : Str} (T : ExvC X.K C) (iC : PySem.W.findIn X.K (.ref C) "__init__" = some (some (.ref fI))) (tI : PySem.W.typeIn X.K (.ref fI) = some (.type "function")) (F1 : FnOk X.prog X.w X.K X.mg X.base CX k fI fd ps sp)
    (hr : Room (k + 1) X.A) (hb : ∀ (s : Shared) (r u : Value), BindsTo s fd ⟨[r], [(kn, u)]⟩ (ps.zip [r, u])) (hx : Passes CX X (fun _ _ _ => False)) (hg : Gl X x) (hm : X.mg x = some (.ref C)) (hkw : PK X kws tk)
    (hall : (backToKw pos (keywordEach kws X.env)).all (·.1.isSome) = true := by rfl) (hks : (backToKw pos (keywordEach kws X.env)).filterMap (·.1) = [kn] := by rfl)
    (hdb : (x == ("__debug__" : Str)) = false := by decide) (hpl : ((backTo pos (starEach [] X.env)).any (·.1) || (backToKw pos (keywordEach kws X.env)).any (·.1.isNone)) = false := by rfl) :
    PE X (.Call (.Name x p) [] kws pos) (tExv C sp tk) := by
  constructor
  intro pins s σ H Q I h
  refine wpAny_Call_Name_kw (ld_glob I hg hm ?_ hdb)
  refine PySem.W.callWith_KW0 (h₀ := X.base) I.ok.mod.kin T.kC hall (thn (hkw.run pos pins s σ H _ I h) fun us s1 ⟨vs, H1, I1, r1, hz, q1⟩ => ⟨I1.kIn, ?_⟩) hpl
  rw [hks]
  match vs, hz, r1 with
  | [v], _, r1 =>
    obtain ⟨u, rfl, ru⟩ := vals1 r1
    exact run_ex (us := []) (kw := [(kn, u)]) T iC tI F1 hr hx I1 (by decide) r1 (fun s r => hb s r u) q1
/-- C(), an own exception class without an __init__ of its own -/
theorem pe_exv0 {bmB : List Value} {B newId initId : String} (F : ExcBaseFacts B newId initId bmB) (q : PySem.W.excIn X.K C bmB newId = true) (gC : X.mg x = some (.ref C)) (kC : PySem.W.keepIn X.K (.ref C) = true) (hg : Gl X x)
    (hdb : (x == ("__debug__" : Str)) = false := by decide) : PE X (.Call (.Name x p) [] [] pos) (fun _ H Q => ∀ a, H a = none → Q (.ref a) (upd H a (ExO (.ref C) a))) := by
  constructor
  intro pins s σ H Q I h
  refine wpAny_Call_Name_kw (ld_glob I hg gC ?_ hdb)
  refine PySem.W.callWith_K0 I.kIn kC ?_
  show wpAny _ _ (call (.ref C) []) _ _ _
  obtain ⟨bm, N, nm, qn, bs, hdct, sn, sub, ab, col, dd, k0, k1, k2, k3, k5, mN, hC, hN, hni, T⟩ := exc_obj I.kIn q
  refine wpAny_call_exc_subT F T hC hN hni (fun h' a hm => ?_) (Nat.zero_le _)
  have hn : H a = none := I.hok.gone hm.new
  obtain ⟨t, ht, _, _⟩ := hm.there
  exact ⟨.ref a, upd H a (ExO (.ref C) a), I.laidN hm.keeps hm.new hn (exO_ok ht ⟨rfl, rfl⟩ rfl rfl rfl (show 4 < 6 by decide)), rfl, h a hn⟩
/-- e.f, e an exception that has the field -/
def tFx (K : PySem.W.Frag) (f : Str) (te : TE) : TE := fun σ H Q => te σ H fun x H1 => ∃ (a C d : Addr) (v : V), x = .ref a ∧ XfC K C ∧ PySem.W.findIn K (.ref C) f = some none ∧ H1 a = some (exo a C (some d)) ∧ H1 d = some (exd d [(f, v)]) ∧ Q v H1
theorem pe_fx (he : PE X e te) (hb : attributeBase e f X.env (eval e X.env) = eval e X.env := by rfl) : PE X (.Attribute e f pos) (tFx X.K f te) := by
  constructor
  intro pins s σ H Q I h
  refine attr_of hb (thn (he.run pins s σ H _ I h) fun u s1 hh => ?_)
  obtain ⟨x, H1, I1, rx, a, C, d, v, ex, T, hno, ea, ed, q⟩ := hh
  subst ex
  obtain rfl : u = Value.ref a := rx
  obtain ⟨t1, ho⟩ := exo_at I1.hok ea
  obtain ⟨mA, hns, hr⟩ := exd_at I1.hok ed
  obtain ⟨od, hod, hl⟩ := lookIn_ns hns
  have l : [(f, v)].lookup f = some v := by simp
  obtain ⟨w, hw, rw'⟩ := RelO.some_of (v := v) (o := mA f) (by rw [← l]; exact hr f)
  have J : PySem.W.InstAt s1.heap a _ C (some od) := ⟨ho, rfl, rfl, hod⟩
  exact HandSPX.exc_get I1.kIn J T.ga T.gg T.exC (PySem.W.findObj_own T.hdC hno rfl (by rw [hl, hw])) (handed_of rw') ⟨v, H1, I1.tok _, rw', q⟩
/-- isinstance(e, c), e an exception that stands in H -/
def ExAt (H : Hp) (a C : Addr) : Prop := (∃ d fs, H a = some (exo a C (some d)) ∧ H d = some (exd d fs)) ∨ H a = some (ExO (.ref C) a)
def rIsV (K : PySem.W.Frag) : List V → Hp → VK → Prop := fun xs H Q => ∃ (a C : Addr) (c : V) (u : Value) (b : Bool), xs = [.ref a, c] ∧ ExAt H a C ∧ ExcC K C ∧ ClsV c u ∧ PySem.W.kitOne K (.ref C) u = some b ∧ Q (.bl b) H
theorem call_isV : CallR X (.builtin "isinstance") (rIsV X.K) := by
  intro pins s σ H xs us Q I r h
  obtain ⟨a, C, c, u, b, rfl, ea, hc, k, e, q⟩ := h
  obtain ⟨u1, u2, rfl, r1, r2⟩ := vals2 r
  have e2 := k.eq r2
  subst e2
  cases r1
  have ok : ∀ {od : Option Obj}, PySem.W.findObj X.K C od "__class__" = some (.bind (.builtin "getset_descriptor.__get__") (.builtin "object.__class__")) := fun {od} => by
    obtain ⟨cd, hcd, _⟩ := PySem.W.any_some hc.hd
    have hs : (PySem.W.clsIn X.K C).isSome = true := by
      rw [hcd]
      rfl
    cases od with
    | none => exact PySem.W.findObj_dataN hs hc.ha hc.hn hc.ht
    | some o => exact PySem.W.findObj_data hs hc.ha hc.hn hc.ht
  obtain ⟨oe, od, J⟩ : ∃ oe od, PySem.W.InstAt s.heap a oe C od := by
    rcases ea with ⟨d, fs, ea, ed⟩ | ea
    · obtain ⟨t1, ho⟩ := exo_at I.hok ea
      obtain ⟨mA, hns, _⟩ := exd_at I.hok ed
      obtain ⟨od, hod, _⟩ := lookIn_ns hns
      exact ⟨_, some od, ho, rfl, rfl, hod⟩
    · have z : ObjOk X.prog X.w H s.heap a (ExO (.ref C) a) := I.hok a _ ea
      obtain ⟨⟨oe, vs, h1, ⟨h2, h3⟩, h4, _⟩, _⟩ := z
      exact ⟨oe, none, h1, h2, by unfold PySem.W.notCls; rw [h4], by rw [h3]; trivial⟩
  exact PySem.W.kia_one (PySem.W.exk_kit hc.hg hc.hk hc.hs hc.hd ok hc.hm) I.kIn J e (fun z => nomatch z) fun tk => ⟨.bl b, H, I.tok tk, rfl, q⟩
end
end L2

namespace Toy
open PySem L2 PySem.Spec PyProof.Rows PySem.ExK
def top (i : Nat) : Stmt := PySem.Challenge.pw_handlesagain_k02_sorts.main.body.getD i (.Pass ⟨0, 0, 0, 0⟩)
theorem _root_.L2.Same.new {H : Hp} {a : Addr} {o : HO} (h : H a = none) : Same H (upd H a o) := fun b u e => by
  rw [upd_ne (ne_of_none e h)]
  exact e
/-! ### where no repr is under way -/
section
/-- a def's promise, where no repr is under way around the call -/
structure FnG (P : Program) (w : World) (K : PySem.W.Frag) (mg : Str → Option Value) (base : Heap) (CX : CXT) (k : Nat) (f : Addr) (fd : FuncData) (ps : List Str) (sp : Sp) : Prop where
  len : ∀ vs H Q E, sp vs H Q E → vs.length = ps.length
  run : ∀ (A : Around) (outer : List Env) (s : Shared) (H : Hp) (args : Args) (us : List Value) (vs : List V) (Q : VK) (E : XK), A.guards = some [] → Room k A → Env0 P w K mg base A outer s H →
    BindsTo s fd args (ps.zip us) → Vals vs us → sp vs H Q E → codeAny (model P w) A (.call (.ref f) args) (CR CX outer P w H s Q E) s
theorem fnG_ok {P : Program} {w : World} {K : PySem.W.Frag} {mg : Str → Option Value} {base : Heap} {k : Nat} {x qual : Str} {st : Stmt} {f : Addr} {fd : FuncData} {N ps : List Str} {sp : Sp} (F : Fun K x qual st f fd) (S : FnScope N ps (defScope st))
    (len : ∀ vs H Q E, sp vs H Q E → vs.length = ps.length)
    (body : ∀ (cdv : Value) (A : Around) (outer : List Env) (s : Shared) (H : Hp) (vs : List V) (Q : VK) (E : XK), A.guards = some [] → Room k (A.deeper (PyProof.Rows.envOfC qual (defScope st) s.heap.objs.size f cdv)) → sp vs H Q E →
      ∃ t, PSs (cxOf CX0 P w K mg base N qual (defScope st) f cdv A outer s H E).nox (defBody st) t ∧ t { nx := fun _ H' => Q .non H', rt := Q } (start N vs) H) :
    FnG P w K mg base CX0 (k + 1) f fd ps sp := by
  obtain ⟨oc, od, kV, doc, pm, an, cdv, ct, osl, rfl, lk, hcd⟩ := F.ex
  constructor
  · exact len
  intro A outer s H args us vs Q E hg hr e0 hb r hsp
  have hl := len _ _ _ _ hsp
  have old : ∀ b o, base.get? b = some o → s.heap.get? b = some o := fun b o e => (e0.bs b o e).1
  have KX : K.In s.heap := e0.mod.kin.keeps old
  have kinds : ∀ y ∈ ps.zip us, (defScope st).names.lookup y.1 = some .local ∨
      ((defScope st).names.lookup y.1 = some .cell ∧ ((cellsFrom (s.heap.objs.size + 1) (defScope st).names []).lookup y.1).isSome = true) := by
    rintro ⟨n, v⟩ hy
    have q := S.par n (List.of_mem_zip hy).1
    refine q.imp id fun q => ⟨q, ?_⟩
    exact PySem.W.cellsFrom_some _ _ _ (.inl q)
  refine codeAny_call_function hr.depth (KX _ _ lk) rfl S.co S.gen rfl (PySem.W.codeRec_of KX hcd) (hb _ _ _ _ ?_)
  refine wpAny_newFunctionEnv_cells S.kind kinds fun env he s1 z => ?_
  subst he
  refine ⟨(e0.mod.nolimit.keeps old).keeps z.toInCall.keep, PySem.codeAny_func ?_⟩
  obtain ⟨t, ht, hq⟩ := body cdv A outer s H vs Q E hg (hr.deeper _) hsp
  have I := inv_start (CX := CX0) (E := E) (cd := cdv) (f := f) S hr.hd e0 hl r z
  refine wpAny_mono (ht.nox.run [] s1 (start N vs) H _ I hq) (fun fl s' hs => ?_) fun e s' hs => hs
  cases fl with
  | ret u =>
    obtain ⟨v, σ', H', J, rv, q⟩ := hs
    exact ⟨v, H', J.os, J.bare, J.base, J.hok, rv, q⟩
  | next =>
    obtain ⟨σ', H', J, q⟩ := hs
    exact ⟨V.non, H', J.os, J.bare, J.base, J.hok, rfl, q⟩
  | brk => exact hs.choose_spec.choose_spec.2.elim
  | cont => exact hs.choose_spec.choose_spec.2.elim
/-- the law's own call -/
theorem lawG {P : Program} {w : World} {K : PySem.W.Frag} {mg mb : Str → Option Value} {k : Nat} {fa a : Addr} {fd : FuncData} {sp : Sp} {s₁ : Shared} {vs : List Value} {ns : List Int} (KX : K.In s₁.heap) (hns : s₁.heap.Ns mainGlobals mg)
    (hb : s₁.heap.Ns builtinsNs mb) (hbb : ∀ x : Str, x ≠ "__name__" → mb x = bootBuiltins x) (hlim : s₁.heap.NoLimit) (hg : s₁.gens = #[])
    (ha : s₁.heap.get? a = some { cls := .type "list", data := .seq vs.toArray }) (hi : PyProof.Rows.IntsAre vs ns) (hl : ns.length ≤ sizeLine) (hr : Room k callerA)
    (F : ∀ base : Heap, K.In base → base.Ns mainGlobals mg → FnG P w K mg base CX0 k fa fd ["script"] sp) (bind : ∀ (s : Shared) (u : Value), BindsTo s fd ⟨[u], []⟩ [("script", u)])
    (hsp : ∀ H : Hp, SqL K H a (ns.map V.int) → sp [.ref a] H (fun v _ => v = .bl true) fun _ _ _ => False) :
    codeAny (model P w) callerA (.call (.ref fa) ⟨[.ref a], []⟩) (fun r s' => r = .ok (.ret (.bool true)) ∧ PySem.OldK s₁.heap s'.heap ∧ s'.os = s₁.os ∧ AllBare s'.gens) s₁ := by
  have rv := vals_ints hi
  have lenV := hi.length
  -- the abstract heap: nothing, or the script, locked
  have go : ∀ H : Hp, (∀ b o, H b = some o → b = a ∧ K.lookup a = none ∧ o = .frz { cls := .type "list", data := .seq vs.toArray } (.lst (ns.map V.int))) → SqL K H a (ns.map V.int) →
      codeAny (model P w) callerA (.call (.ref fa) ⟨[.ref a], []⟩) (fun r s' => r = .ok (.ret (.bool true)) ∧ PySem.OldK s₁.heap s'.heap ∧ s'.os = s₁.os ∧ AllBare s'.gens) s₁ := by
    intro H hA hS
    have hok : HOk P w H s₁.heap := fun b o q => by
      obtain ⟨rfl, _, rfl⟩ := hA b o q
      exact ⟨ha, by rw [List.length_map]; exact hl, vs, _, rv, ha⟩
    have low : ∀ {b : Addr} {o : Obj}, s₁.heap.get? b = some o → H b = none → (hidT s₁.heap H).get? b = some o := fun e n => hidT_get e n
    have free : ∀ {b : Addr} {o : Obj}, s₁.heap.get? b = some o → (∀ its n, o.data ≠ .seq its n) → H b = none := fun {b o} e d => by
      cases q : H b with
      | none => rfl
      | some u =>
        obtain ⟨rfl, _⟩ := hA b u q
        rw [ha] at e
        cases e
        exact absurd rfl (d _ _)
    have nsT : ∀ {b : Addr} {m : Str → Option Value}, s₁.heap.Ns b m → (hidT s₁.heap H).Ns b m := fun {b m} z => by
      obtain ⟨o, es, ep, e, d, r⟩ := z
      exact ⟨o, es, ep, low e (free e fun its n y => by rw [d] at y; cases y), d, r⟩
    have kT : K.In (hidT s₁.heap H) := fun b o e => by
      refine low (KX b o e) ?_
      cases q : H b with
      | none => rfl
      | some u =>
        obtain ⟨rfl, z, _⟩ := hA b u q
        rw [z] at e
        cases e
    have hM : Mod K mg (hidT s₁.heap H) := by
      obtain ⟨mc, h1, h2⟩ := hlim
      exact ⟨kT, nsT hns, ⟨mb, nsT hb, hbb⟩, ⟨mc, nsT h1, h2⟩⟩
    have e0 : Env0 P w K mg (hidT s₁.heap H) callerA [] s₁ H :=
      ⟨rfl, hM, fun b o e => of_hidT e, Nat.le_of_eq (hidT_size _ _), trivial, fun b hb => (nomatch hb), hok, .of_eq hg⟩
    have run := (F _ kT (nsT hns)).run callerA [] s₁ H ⟨[.ref a], []⟩ [.ref a] [.ref a] _ _ rfl hr e0 (bind s₁ (.ref a)) (.cons rfl .nil) (hsp H hS)
    refine codeAny_mono run fun r s' h => ?_
    cases r with
    | error e => exact False.elim h
    | ok fl =>
      cases fl with
      | next => exact False.elim h
      | brk => exact False.elim h
      | cont => exact False.elim h
      | ret u =>
        obtain ⟨v, H', os, bare, un, hok', r', q⟩ := h
        obtain rfl : v = .bl true := q
        obtain rfl : u = Value.bool true := r'
        refine ⟨rfl, PySem.OldK.of_keep fun b o e => ?_, os, bare⟩
        cases q : H b with
        | none => exact un.keep b o e q (fun z => nomatch z) (fun z => nomatch z)
        | some u =>
          obtain ⟨rfl, _, rfl⟩ := hA b u q
          have z := un.frzs b _ _ q
          rw [ha] at e
          cases e
          exact (hok' b _ z).1
  cases hk : K.lookup a with
  | some o =>
    have e := KX a o hk
    rw [ha] at e
    cases e
    refine go (fun _ => none) (fun b o z => nomatch z) (.inr ⟨_, vs.toArray, _, hk, rfl, rfl, rfl, ?_, by simpa using rv⟩)
    rw [List.size_toArray, lenV]
    exact hl
  | none =>
    refine go (fun b => if b = a then some (.frz { cls := .type "list", data := .seq vs.toArray } (.lst (ns.map V.int))) else none) (fun b o z => ?_) (.inl (.inr ⟨_, if_pos rfl⟩))
    by_cases hb : b = a
    · rw [if_pos hb] at z
      exact ⟨hb, hk, (Option.some.inj z).symm⟩
    · rw [if_neg hb] at z
      cases z
theorem walkG {l : PySem.W.OpenLaw} {k : Nat} {q : Program} {loose : List Str} {XP : (Str → Option Value) → Heap → Prop} {YP : World → Heap → Prop} {d : DefRec} {K : Params → PySem.W.Frag} {sp : PySem.W.Frag → Sp} (hn : l.most = some 63) (hdf : d.params.defaults = [])
    (hr : Room k callerA) (hY : ∀ (w : World) (h : Heap), YP w h → (K w.params).In h)
    (F : ∀ (w : World) (mg : Str → Option Value) (fa : Addr) (h : Heap), (K w.params).In h → h.Ns mainGlobals mg → mg d.name = some (.ref fa) →
      ∃ fd : FuncData, (∀ (s : Shared) (u : Value), BindsTo s fd ⟨[u], []⟩ [("script", u)]) ∧
        ∀ base : Heap, (K w.params).In base → base.Ns mainGlobals mg → FnG l.prog w (K w.params) mg base CX0 k fa fd ["script"] (sp (K w.params)))
    (hsp : ∀ (K : PySem.W.Frag) (H : Hp) (a : Addr) (ns : List Int), ns.length ≤ 63 → SqL K H a (ns.map V.int) → sp K [.ref a] H (fun v _ => v = .bl true) fun _ _ _ => False) :
    PySem.W.WalkO q loose XP YP l.row.toRowW d [] (fun f vs => PySem.call f vs) := by
  refine Att.attach_callB hn hdf fun w s₀ s₁ mg mb fa o pm cd doc a vs ns G Y ho hd hcd hmg hobj hints hlen hbits hg => ?_
  have KX := hY w _ Y
  obtain ⟨fd, hb, hF⟩ := F w mg fa _ KX G.T.g hmg
  exact lawG KX G.T.g G.T.b G.T.builtins G.T.nolimit hg hobj hints (Nat.le_trans hlen (by decide)) hr hF hb fun H hS => hsp (K w.params) H a ns hlen hS
end
/-! ### more rules of my own: repr of data, count, != of lists, tuple * n -/
section
variable {X : Cx}
/-- data that repr shows: as Dp says, or a dict that is empty -/
def Rp (K : PySem.W.Frag) (H : Hp) (v : V) (d : PyData) : Prop := Dp K H v d ∨ ∃ (a : Addr), v = .ref a ∧ H a = some (.dK []) ∧ d = .dict []
mutual
theorem dp_noDict {K : PySem.W.Frag} {H : Hp} : ∀ (d : PyData) (v : V), Dp K H v d → d.hasDict = false
  | .none, _, _ => rfl
  | .bool _, _, _ => rfl
  | .int _, _, _ => rfl
  | .str _, _, _ => rfl
  | .list ds, _, h => by
    cases h with
    | lst _ ha => exact dp_noDictAll ds _ ha
  | .tuple ds, _, h => by
    cases h with
    | tup _ ha => exact dp_noDictAll ds _ ha
  | .dict _, _, h => by cases h
theorem dp_noDictAll {K : PySem.W.Frag} {H : Hp} : ∀ (ds : List PyData) (vs : List V), DpAll K H vs ds → PyData.hasDictAll ds = false
  | [], _, _ => rfl
  | d :: ds, _, h => by
    cases h with
    | cons h1 h2 =>
      show (d.hasDict || PyData.hasDictAll ds) = false
      rw [dp_noDict d _ h1, dp_noDictAll ds _ h2]
      rfl
end
theorem Rp.reads {pins : List (Addr × Obj)} {σ : L2.St} {H : Hp} {s : Shared} (I : L2.Inv X pins σ H s) {v : V} {u : Value} {d : PyData} (h : Rp X.K H v d) (r : RelV v u) : ∃ as, Reads s.heap u d as ∧ (d.hasDict = true → sysModules ∉ as) := by
  rcases h with h | ⟨a, rfl, e, rfl⟩
  · obtain ⟨as, hr⟩ := Dp.reads I d v u h r
    refine ⟨as, hr, fun z => ?_⟩
    rw [dp_noDict d v h] at z
    cases z
  · cases r
    obtain ⟨_, hs, vs, kv, o, es, ep, h1, h2, h3, _, h5, _⟩ := (show ObjOk X.prog X.w H s.heap a (.dK []) from I.hok a _ e)
    cases kv
    cases hes : es.toList with
    | cons x xs =>
      rw [hes] at h5
      cases h5
    | nil =>
      refine ⟨_, Reads.dict (kvs := []) h1 h2.1 h3 (as := []) (bs := []) ?_ ?_, fun _ z => ?_⟩
      · rw [hes]
        exact .nil
      · rw [hes]
        exact .nil
      · rcases List.mem_cons.mp z with z | z
        · rw [z] at hs
          simp at hs
        · cases z
def okD (d : PyData) : Bool := d.showable && decide (d.depth ≤ 50) && decide (d.shown.length ≤ 100000) && PyData.strOk d.shown
theorem call_reprW (hg : X.A.guards = some []) (hu : X.A.units + 64 < cLine) : CallR X (.builtin "repr") (fun xs H Q => ∃ v d, xs = [v] ∧ Rp X.K H v d ∧ (d.showable = true ∧ d.depth ≤ 50 ∧ d.shown.length ≤ 100000) ∧ Q (.str d.shown) H) := by
  intro pins s σ H xs us Q I r h
  obtain ⟨v, d, rfl, hd, ho, q⟩ := h
  obtain ⟨u, rfl, ru⟩ := vals1 r
  obtain ⟨h1, h2, h3⟩ := ho
  obtain ⟨as, hr, hm⟩ := hd.reads I ru
  have fin : ∀ (h' : Heap) (t : Tok) (tk : Nat), (∀ b o, s.heap.get? b = some o → h'.get? b = some o) → EP X pins σ Q (.str d.shown t) { s with heap := h', toks := tk } := fun h' t tk kp =>
    ⟨.str d.shown, H, I.kept (t' := tk) kp, ⟨t, rfl⟩, q⟩
  have hsz : d.shown.length ≤ sizeLine := Nat.le_trans h3 (by decide)
  cases v with
  | ref a =>
    cases ru
    exact repr_of_reads' hr h1 hm hg (by omega) (fun b o e => e) (fun h' t tk kp => fin h' t tk kp) hsz
  | non =>
    cases ru
    cases hr
    exact PySem.P.repr_of_none (fin s.heap _ _ fun b o e => e)
  | bl b =>
    cases ru
    cases hr
    exact PySem.P.repr_of_bool (fin s.heap _ _ fun b o e => e)
  | int i =>
    obtain ⟨t, rfl⟩ := ru
    cases hr
    exact PySem.P.repr_of_int (by simpa [PyData.showable] using h1) (fin s.heap _ _ fun b o e => e)
  | str z =>
    obtain ⟨t, rfl⟩ := ru
    cases hr
    exact PySem.P.repr_of_str (fin s.heap _ _ fun b o e => e) hsz
  | byt b =>
    obtain ⟨t, rfl⟩ := ru
    cases hr
  | flt b =>
    obtain ⟨t, rfl⟩ := ru
    cases hr
  | ty n =>
    cases ru
    cases hr
theorem okD_w {d : PyData} (ho : okD d = true) : d.showable = true ∧ d.depth ≤ 50 ∧ d.shown.length ≤ 100000 := by
  unfold okD at ho
  simp only [Bool.and_eq_true, decide_eq_true_eq] at ho
  obtain ⟨⟨⟨h1, h2⟩, h3⟩, _⟩ := ho
  exact ⟨h1, h2, h3⟩
theorem call_reprD (hg : X.A.guards = some []) (hu : X.A.units + 64 < cLine) : CallR X (.builtin "repr") (fun xs H Q => ∃ v d, xs = [v] ∧ Rp X.K H v d ∧ okD d = true ∧ Q (.str d.shown) H) := by
  intro pins s σ H xs us Q I r h
  obtain ⟨v, d, e, hd, ho, q⟩ := h
  exact call_reprW hg hu pins s σ H xs us Q I r ⟨v, d, e, hd, okD_w ho, q⟩
/-- xs.count(y), flat things -/
def rCnt (K : PySem.W.Frag) : V → List V → Hp → VK → Prop := fun x xs H Q => ∃ (a : Addr) (ys : List V) (y : V), x = .ref a ∧ xs = [y] ∧ SqL K H a ys ∧ flatV y = true ∧ ys.all flatV = true ∧ Q (.int (ys.countP (eqV · y) : Nat)) H
theorem countP_eqU {x : V} : ∀ {xs : List V} {us : List Value}, Vals xs us → xs.all flatV = true → us.countP (eqU x) = xs.countP fun y => eqV y x
  | _, _, .nil, _ => rfl
  | y :: xs, u :: us, .cons r t, f => by
    rw [List.all_cons, Bool.and_eq_true] at f
    rw [List.countP_cons, List.countP_cons, eqU_of r f.1, countP_eqU t f.2]
theorem mt_count : MtR X "list.count" (rCnt X.K) := by
  intro pins s σ H x xs v us Q I rx rxs h
  obtain ⟨a, ys, y, rfl, rfl, hs, fy, fys, q⟩ := h
  cases rx
  obtain ⟨u, rfl, ru⟩ := rxs.one
  obtain ⟨its, rv, ⟨⟨cls, dd, data, sl⟩, n, ho, hc, hdn, hd⟩, hlen⟩ := I.list hs
  simp only at hc hd
  subst hc hd
  have cnt := SeqAt.list_countAt a its.toArray n dd sl u (eqU y)
  refine call_meets PySem.F.slot_list_count ⟨_, ho, rfl⟩ PySem.F.entry_list_count (PySem.F.args_list_count_2 _ _) cnt ?_
  refine ⟨ho, fun z hz => mem_eqAt ru fy rv fys z (by simpa using hz), ?_⟩
  refine ⟨.int (ys.countP (eqV · y) : Nat), H, I.tok _, ⟨s.toks, ?_⟩, q⟩
  rw [← countP_eqU rv fys]
end
/-! ### a tuple, once or not at all -/
section
/-- t * 1: t itself -/
theorem mul_one (l : Addr) (items : Array Value) (n : Nat) (dd : Option Addr) (sl : Array (Option Value)) (u : Tok) (c2 : items.isEmpty = false) :
    Meets (Builtin.«tuple.__mul__» ⟨[.ref l, .int 1 u], []⟩) (fun _ R s => s.heap.get? l = some { cls := .type "tuple", dict := dd, data := .seq items n, slots := sl } ∧ R (.ok (.ret (Value.ref l))) s) :=
  .of_wp fun prog w A R s h => by
    obtain ⟨hp, g, d, tk, os⟩ := s
    obtain ⟨hl, h⟩ := h
    have f1 := AutoSeq1.idx_int
    wp_walk using wpAny_loadPart' hl
    exact ⟨_, rfl, h⟩
/-- t * 0: an empty tuple -/
theorem mul_zero (l : Addr) (items : Array Value) (n : Nat) (dd : Option Addr) (sl : Array (Option Value)) (u : Tok) (c2 : items.isEmpty = false) :
    Meets (Builtin.«tuple.__mul__» ⟨[.ref l, .int 0 u], []⟩) (fun _ R s => s.heap.get? l = some { cls := .type "tuple", dict := dd, data := .seq items n, slots := sl } ∧
      R (.ok (.ret (Value.ref s.heap.objs.size))) { s with heap := s.heap.push { cls := Value.type "tuple", data := Data.seq #[] } }) :=
  .of_wp fun prog w A R s h => by
    obtain ⟨hp, g, d, tk, os⟩ := s
    obtain ⟨hl, h⟩ := h
    have f1 := AutoSeq1.idx_int
    wp_walk using wpAny_loadPart' hl
    exact ⟨_, rfl, h⟩
/-- t * k, k from 0 to 3: some tuple of that -/
def rRep3 (K : PySem.W.Frag) : V → V → Hp → VK → Prop := fun x y H Q => ∃ (l : Addr) (k : Int) (xs : List V), x = .ref l ∧ y = .int k ∧ SqT K H l xs ∧ H l = some (.tup xs) ∧ xs ≠ [] ∧ 0 ≤ k ∧ k ≤ 3 ∧ xs.length ≤ 1000 ∧
  ∀ p H', (∀ b o, H b = some o → H' b = some o) → H' p = some (.tup (List.replicate k.toNat xs).flatten) → Q (.ref p) H'
theorem op_rep3 {X : Cx} : OpR X (binaryOp .Mult) (rRep3 X.K) := by
  intro pins s σ H x y v u Q I rx ry h
  obtain ⟨l, k, xs, rfl, rfl, hT, eT, hne, h0, h3, hz, q⟩ := h
  by_cases hk : 2 ≤ k
  · refine op_repT pins s σ H _ _ v u Q I rx ry ⟨l, k, xs, rfl, rfl, hT, hne, hk, by omega, hz, fun p hp => q p _ (fun b o e => ?_) upd_same⟩
    rw [upd_ne (ne_of_none e hp)]
    exact e
  cases rx
  obtain ⟨t, rfl⟩ := ry
  obtain ⟨its, r, ⟨⟨cls, dd, data, sl⟩, ho, hc, n, hd⟩, hs⟩ := I.tuple hT
  simp only at hc hd
  subst hc hd
  have hi : its.toArray.isEmpty = false := by
    cases r with
    | nil => exact absurd rfl hne
    | cons a b => rfl
  have ty : s.TypeIs (.ref l) "tuple" := ⟨_, ho, rfl⟩
  have key : ∀ (i : Int), k = i → wpAny (model X.prog X.w) X.A (call (.builtin "tuple.__mul__") [.ref l, .int i t]) (EP X pins σ Q) X.xe s → wpAny (model X.prog X.w) X.A (binaryOp .Mult (.ref l) (.int k t)) (EP X pins σ Q) X.xe s := by
    rintro i rfl hq
    refine wpAny_binaryOp_repeat_ref (T := "tuple") (U := "int") (by decide) ty (fun s' => typeIs_int s' k t) noFill_tuple_mul F.fills_int_mul F.slot_int_rmul repeat_tuple F.slot_int_index.lookup ?_
    exact call_meets F.slot_int_rmul (typeIs_int s k t) F.entry_int_rmul (F.args_int_rmul_2 _ _) (int_rmul_tuple k t l its.toArray n dd sl) ⟨ho, rfl, ty, hq⟩
  have k01 : k = 0 ∨ k = 1 := by omega
  rcases k01 with rfl | rfl
  · refine key 0 rfl (call_meets F.slot_tuple_mul ty F.entry_tuple_mul (F.args_tuple_mul_2 _ _) (mul_zero l its.toArray n dd sl t hi) ⟨ho, ?_⟩)
    have I1 := I.laid (t' := s.toks) (a := s.heap.objs.size) (o := .tup []) (h' := s.heap.push { cls := Value.type "tuple", data := Data.seq #[] }) (fun _ _ q => Heap.get?_push_of_some _ q) (Nat.le_refl _)
      ⟨Nat.zero_le _, [], .nil, _, Heap.get?_push_at rfl rfl, rfl, _, rfl⟩
    have hn := I.hok.fresh (Nat.le_refl s.heap.objs.size)
    exact ⟨.ref s.heap.objs.size, _, I1, rfl, q _ _ (fun b o e => by rw [upd_ne (ne_of_none e hn)]; exact e) upd_same⟩
  · refine key 1 rfl (call_meets F.slot_tuple_mul ty F.entry_tuple_mul (F.args_tuple_mul_2 _ _) (mul_one l its.toArray n dd sl t hi) ⟨ho, ?_⟩)
    refine ⟨.ref l, H, I, rfl, q l H (fun b o e => e) ?_⟩
    rw [eT]
    simp
end
/-! ### data stays data; texts of ints -/
mutual
theorem dp_same {K : PySem.W.Frag} {H H' : Hp} (s : Same H H') : ∀ (d : PyData) (v : V), Dp K H v d → Dp K H' v d
  | .none, _, h => by cases h; exact .non
  | .bool _, _, h => by cases h; exact .bl _
  | .int _, _, h => by cases h; exact .int _
  | .str _, _, h => by cases h; exact .str _
  | .list ds, _, h => by
    cases h with
    | lst q ha => exact .lst (s.seq q) (dp_sameAll s ds _ ha)
  | .tuple ds, _, h => by
    cases h with
    | tup q ha =>
      refine .tup ?_ (dp_sameAll s ds _ ha)
      rcases q with (q | ⟨o, q⟩) | q
      · exact .inl (.inl (s _ _ q))
      · exact .inl (.inr ⟨o, s _ _ q⟩)
      · exact .inr q
  | .dict _, _, h => by cases h
theorem dp_sameAll {K : PySem.W.Frag} {H H' : Hp} (s : Same H H') : ∀ (ds : List PyData) (vs : List V), DpAll K H vs ds → DpAll K H' vs ds
  | [], _, h => by cases h; exact .nil
  | d :: ds, _, h => by
    cases h with
    | cons h1 h2 => exact .cons (dp_same s d _ h1) (dp_sameAll s ds _ h2)
end
theorem rp_same {K : PySem.W.Frag} {H H' : Hp} {v : V} {d : PyData} (h : Rp K H v d) (s : Same H H') : Rp K H' v d := by
  rcases h with h | ⟨a, rfl, e, rfl⟩
  · exact .inl (dp_same s d v h)
  · exact .inr ⟨a, rfl, s _ _ e, rfl⟩
theorem char_lt (c : Char) : c.toNat < 1114112 := by
  have h := c.valid
  have e : c.toNat = c.val.toNat := rfl
  rcases h with h | ⟨_, h⟩
  · rw [e]
    exact Nat.lt_trans h (by decide)
  · rw [e]
    exact h
theorem strOk_of (s : String) : PyData.strOk (Str.ofString s) = true := by
  unfold PyData.strOk
  rw [PySem.Str.ofString_eq_toList]
  show (List.map Char.toNat s.toList).toArray.all (fun x => decide (x < 1114112)) = true
  rw [Array.all_eq_true']
  intro x hx
  have hx2 : x ∈ List.map Char.toNat s.toList := by simpa using hx
  obtain ⟨c, _, rfl⟩ := List.mem_map.mp hx2
  exact decide_eq_true (char_lt c)
theorem okD_int {i : Int} (h : i.natAbs < 10 ^ 40) : okD (.int i) = true := by
  have h1 : i.natAbs < 2 ^ 140 := Nat.lt_of_lt_of_le h (by decide)
  have h2 : i.natAbs.log2 < 1920 := Nat.lt_trans (PySem.Flt.log2_lt_of (by decide) h1) (by decide)
  have h3 := int_text_length_le10 (k := 40) (by decide) h
  have e1 : PyData.showable (.int i) = true := decide_eq_true h2
  have e2 : PyData.shown (.int i) = Str.ofString (toString i) := rfl
  have e3 : (Str.ofString (toString i)).length ≤ 100000 := by
    rw [PySem.ofString_length]
    omega
  unfold okD
  rw [e1, e2, strOk_of, decide_eq_true e3]
  rfl
/-! ### try: .. except A as n: .. except B as m: .. -/
/-- what such clauses wish of an exception of the body; i, the slot of the clause's name -/
def wManyA (K : PySem.W.Frag) (Wout : WX) (D : Ends) : List (Value × Nat × (Addr → Value → Option Addr → TS)) → WX
  | [] => Wout
  | (c, i, ts) :: r => fun cls d σ H => ∃ b, PySem.W.exmOne K cls c = some b ∧
      (b = true → ∀ a, H a = none → ts a cls d { nx := fun σ' H' => D.nx (σ'.set i none) H', rt := D.rt, bk := fun σ' H' => D.bk (σ'.set i none) H', ct := fun σ' H' => D.ct (σ'.set i none) H' } (σ.set i (some (.ref a))) H) ∧
      (b = false → wManyA K Wout D r cls d σ H)
inductive HdsAs (X : Cx) : List ExceptHandler → List (Value × Nat × (Addr → Value → Option Addr → TS)) → Prop
  | nil : HdsAs X [] []
  | cons {x n : Str} {i : Nat} {c : Value} {ts : Addr → Value → Option Addr → TS} {b₀ : Stmt} {suite : List Stmt} {np pos' : Pos} {hds : List ExceptHandler} {l : List (Value × Nat × (Addr → Value → Option Addr → TS))}
      (hc : Names X x c) (hi : X.N[i]? = some n) (hln : X.env.kindOf n = some .local)
      (hsu : ∀ (a : Addr) (oe : Obj) (cls : Value) (d : Option Addr) (pn : List (Addr × Obj)), Zc cls d oe → (∃ vs, oe.data = .fields vs) → PSs (X.suite a ((a, oe) :: pn)) (b₀ :: suite) (ts a cls d))
      (r : HdsAs X hds l) : HdsAs X (.ExceptHandler (some (.Name x np)) (some n) (b₀ :: suite) pos' :: hds) ((c, i, ts) :: l)
section
variable {X : Cx} {body : List Stmt} {h₀ : ExceptHandler} {hds : List ExceptHandler} {l : List (Value × Nat × (Addr → Value → Option Addr → TS))} {pos : Pos} {tb : WX → TS} {Wout : WX}
theorem ps_try_manyA (hs : X.stack = X.env :: X.outer) (hf : X.env.frame = some X.env.locals) (hN : X.N.Nodup) (tk : Takes X Wout)
    (hb : ∀ (W : WX) (pn : List (Addr × Obj)) (xe : Value → Shared → Prop), Takes (X.tr pn xe) W → PassesOwn (model X.prog X.w) X.A X.env xe → PSs (X.tr pn xe) body (tb W))
    (hh : HdsAs X (h₀ :: hds) l) : PS X (.Try body (h₀ :: hds) [] [] pos) (fun D σ H => tb (wManyA X.K Wout D l) D σ H) := by
  constructor
  intro pins s σ H D I h
  have ok := I.ok
  have hfr : X.A.frames = some (X.env :: X.outer) := by
    rw [ok.frames, hs]
  apply wpAny_Try_except
  let xe1 : Value → Shared → Prop := fun e s₁ => wpAny (model X.prog X.w) X.A (noteFrame e X.env)
    (fun _ s₂ => wpAny (model X.prog X.w) X.A (setFlight e none)
      (fun _ s₃ => wpAny (model X.prog X.w) X.A (handleBy e X.env (h₀ :: hds)) (SP X pins D) X.xe s₃) X.xe s₂) X.xe s₁
  refine wpAny_mono ((hb (wManyA X.K Wout D l) (X.pn ++ pins) xe1 (fun u s' xx => ?_) PassesOwn.looking).run [] s σ H D (I.toTry _) h) (fun f s1 hsp => ?_) (fun e s1 he => he)
  · obtain ⟨a, B, sI, pins', σ', H', cls, d, rfl, J', nb, up, sky, na, os, ag, w⟩ := xx
    have J : Inv X pins σ' H' sI := J'.ofTry ok
    have sky' : Sky B (X.env :: X.outer) a (Zc cls d) X.env.locals s'.heap := by
      rw [← hs]
      exact sky
    show wpAny (model X.prog X.w) X.A (noteFrame (.ref a) X.env) _ _ _
    refine Sky.land Zc.steady hfr hf sky' fun h3 fl3 up3 => ?_
    have J3 : Inv X pins σ' H' { s' with heap := h3 } := J.landed nb fl3.1 (up.trans up3) os ag
    obtain ⟨oe3, vs3, he3, hz3, hd3⟩ := fl3.there
    have nfr : a ∉ frs (X.env :: X.outer) := fun hm => by
      obtain ⟨_, o', e', hnf⟩ := fl3.2.2.1.mem hm
      rw [he3] at e'
      cases e'
      exact hnf _ hd3
    have nL : a ≠ X.env.locals := fun z =>
      nfr (List.mem_filterMap.mpr ⟨X.env, List.mem_cons_self, by rw [hf, z]⟩)
    have nF : a ∉ X.fs := fun hm => by
      obtain ⟨e, he, q⟩ := List.mem_filterMap.mp hm
      exact nfr (List.mem_filterMap.mpr ⟨e, List.mem_cons_of_mem _ he, q⟩)
    have S3 := J3.suite he3 hd3 na nL nF
    -- one clause after the other
    have go : ∀ (hds : List ExceptHandler) (l : List (Value × Nat × (Addr → Value → Option Addr → TS))), HdsAs X hds l → wManyA X.K Wout D l cls d σ' H' →
        wpAny (model X.prog X.w) X.A (handleBy (.ref a) X.env hds) (SP X pins D) X.xe { s' with heap := h3 } := by
      intro hds l hh
      induction hh with
      | nil =>
        intro w
        apply wpAny_handleBy_nil
        obtain ⟨k1, k2, k3, oe, vs, T, oT, ts', he, hz, hd, h1, hr⟩ := id fl3
        unfold PySem.passOn
        refine wpAny_bind (wpAny_field he hd h1 ?_)
        rw [if_neg (show ¬ ((Value.ref T == Value.none) = true) from by simp)]
        have fin : wpAny (model X.prog X.w) X.A (setFlight (.ref a) X.env.frame)
            (fun _ s4 => wpAny (model X.prog X.w) X.A (throw (.ref a) : Sem Flow) (SP X pins D) X.xe s4) X.xe { s' with heap := h3 } := by
          rw [hf]
          refine HandSPX.setFlight_upZ fl3 fun h4 hh4 up4 => wpAny_throw (tk _ _ ?_)
          refine ⟨a, B, sI, pins, σ', H', cls, d, rfl, J, nb, (up.trans up3).trans up4, .inr (.inr ?_), na, os, ag, w⟩
          rw [hs]
          exact hh4
        first
          | exact wpAny_bind (wpAny_pure (wpAny_bind fin))
          | exact wpAny_bind fin
      | @cons x n i c ts b₀ suite np pos' hds l hc hi hln hsu r ih =>
        rintro ⟨b, hb1, hyes, hno⟩
        have hloc : Loc X.env.scope n := .inl hln
        refine wpAny_handleBy_cons (codeAny_handlers_test ?_) (by intro q; cases q)
        have l1 : PySem.W.Looks (model X.prog X.w) h3 (typeOf (.ref a)) cls := fun A Q E s k q =>
          wpAny_typeOf_ref (k _ _ he3) (by rw [hz3.1]; exact q)
        have l2 := PySem.W.exm_one (M := model X.prog X.w) (J3.kIn) l1 hb1
        have test : ∀ {Q : Value → Shared → Prop} {E : Value → Shared → Prop}, Q c { s' with heap := h3 } →
            wpAny (model X.prog X.w) (X.A.mark (some (.ref a))) (eval (.Name x np) X.env) Q E { s' with heap := h3 } := fun {Q E} q => by
          obtain ⟨hg, hdbg, hm | ⟨hm, hv, hnn⟩⟩ := hc
          · exact ld_glob (X := X.suite a ((a, oe3) :: (X.pn ++ pins))) S3 hg hm q hdbg
          · exact ld_blt (X := X.suite a ((a, oe3) :: (X.pn ++ pins))) S3 hg hm hv q hnn hdbg
        refine test (l2.here ?_)
        cases b with
        | false => exact ih (hno rfl)
        | true =>
          apply codeAny_handlers_suite_as
          refine HandSPX.lands_againZ fl3 fun h4 fl4 up4 => ?_
          have J4 : Inv X pins σ' H' { s' with heap := h4 } := J.landed nb fl4.1 ((up.trans up3).trans up4) os ag
          obtain ⟨oe4, vs4, he4, hz4, hd4⟩ := fl4.there
          have S4 := J4.suite he4 hd4 na nL nF
          refine store_ok (X := X.suite a ((a, oe4) :: (X.pn ++ pins))) (v := .ref a) S4 hN hi hloc rfl (fun s5 S5 => ?_) (.inr hln)
          have run := (hsu a oe4 cls d (X.pn ++ pins) hz4 ⟨_, hd4⟩).run [] s5 _ H' _ S5 (hyes rfl a na)
          refine wpAny_mono run (fun f s6 hsp => ?_) (fun _ _ z => False.elim z)
          have gone : ∀ {σ6 : L2.St} {H6 : Hp} {Q : Shared → Prop}, Inv (X.suite a ((a, oe4) :: (X.pn ++ pins))) [] σ6 H6 s6 → (∀ s7, Inv X pins (σ6.set i none) H6 s7 → Q s7) →
              wpAny (model X.prog X.w) X.A (do bindName X.env n .none; unbindBehindTheSuite X.env n pos') (fun _ s7 => Q s7) X.xe s6 := fun {σ6 H6 Q} S6 hq =>
            gone_ok (S6.unsuite ok) hN hi hln hq
          cases f with
          | next =>
            obtain ⟨σ6, H6, S6, q6⟩ := hsp
            exact gone S6 fun s7 J7 => ⟨_, _, J7, q6⟩
          | brk =>
            obtain ⟨σ6, H6, S6, q6⟩ := hsp
            exact gone S6 fun s7 J7 => ⟨_, _, J7, q6⟩
          | cont =>
            obtain ⟨σ6, H6, S6, q6⟩ := hsp
            exact gone S6 fun s7 J7 => ⟨_, _, J7, q6⟩
          | ret u =>
            obtain ⟨v6, σ6, H6, S6, r6, q6⟩ := hsp
            exact gone S6 fun s7 J7 => ⟨_, _, _, J7, r6, q6⟩
    exact go _ _ hh w
  · cases f with
    | next =>
      obtain ⟨σ', H', J', q⟩ := hsp
      exact wpAny_execs_nil ⟨σ', H', J'.ofTry ok, q⟩
    | brk =>
      obtain ⟨σ', H', J', q⟩ := hsp
      exact ⟨σ', H', J'.ofTry ok, q⟩
    | cont =>
      obtain ⟨σ', H', J', q⟩ := hsp
      exact ⟨σ', H', J'.ofTry ok, q⟩
    | ret u =>
      obtain ⟨v, σ', H', J', r, q⟩ := hsp
      exact ⟨v, σ', H', J'.ofTry ok, r, q⟩
end
/-! ### defs called within an except suite, about the error that is caught -/
/-- a def's promise there; p, the error that is caught and its object -/
structure FnP (P : Program) (w : World) (K : PySem.W.Frag) (mg : Str → Option Value) (base : Heap) (k : Nat) (f : Addr) (fd : FuncData) (ps : List Str) (sp : Addr × Obj → Sp) : Prop where
  len : ∀ p vs H Q E, sp p vs H Q E → vs.length = ps.length
  run : ∀ (A : Around) (outer : List Env) (s : Shared) (H : Hp) (args : Args) (us : List Value) (vs : List V) (Q : VK) (E : XK) (p : Addr × Obj), L2H.RoomH k A → L2H.PinOk outer H s p → Env0 P w K mg base A outer s H →
    BindsTo s fd args (ps.zip us) → Vals vs us → sp p vs H Q E → codeAny (model P w) A (.call (.ref f) args) (CR CX0 outer P w H s Q E) s
theorem fnP_ok {P : Program} {w : World} {K : PySem.W.Frag} {mg : Str → Option Value} {base : Heap} {k : Nat} {x qual : Str} {st : Stmt} {f : Addr} {fd : FuncData} {N ps : List Str} {sp : Addr × Obj → Sp} (F : Fun K x qual st f fd) (S : FnScope N ps (defScope st))
    (len : ∀ p vs H Q E, sp p vs H Q E → vs.length = ps.length)
    (body : ∀ (cdv : Value) (A : Around) (outer : List Env) (s : Shared) (H : Hp) (vs : List V) (Q : VK) (E : XK) (p : Addr × Obj), L2H.RoomH k (A.deeper (PyProof.Rows.envOfC qual (defScope st) s.heap.objs.size f cdv)) → sp p vs H Q E →
      ∃ t, PSs (L2H.cxH CX0 P w K mg base N qual (defScope st) f cdv A outer s H E p).nox (defBody st) t ∧ t { nx := fun _ H' => Q .non H', rt := Q } (L2.start N vs) H) :
    FnP P w K mg base (k + 1) f fd ps sp := by
  obtain ⟨oc, od, kV, doc, pm, an, cdv, ct, osl, rfl, lk, hcd⟩ := F.ex
  constructor
  · exact len
  intro A outer s H args us vs Q E p hr hpin e0 hb r hsp
  have hl := len _ _ _ _ _ hsp
  have old : ∀ b o, base.get? b = some o → s.heap.get? b = some o := fun b o e => (e0.bs b o e).1
  have KX : K.In s.heap := e0.mod.kin.keeps old
  have kinds : ∀ y ∈ ps.zip us, (defScope st).names.lookup y.1 = some .local ∨
      ((defScope st).names.lookup y.1 = some .cell ∧ ((cellsFrom (s.heap.objs.size + 1) (defScope st).names []).lookup y.1).isSome = true) := by
    rintro ⟨n, v⟩ hy
    have q := S.par n (List.of_mem_zip hy).1
    refine q.imp id fun q => ⟨q, ?_⟩
    exact PySem.W.cellsFrom_some _ _ _ (.inl q)
  refine codeAny_call_function hr.depth (KX _ _ lk) rfl S.co S.gen rfl (PySem.W.codeRec_of KX hcd) (hb _ _ _ _ ?_)
  refine wpAny_newFunctionEnv_cells S.kind kinds fun env he s1 z => ?_
  subst he
  refine ⟨(e0.mod.nolimit.keeps old).keeps z.toInCall.keep, PySem.codeAny_func ?_⟩
  obtain ⟨t, ht, hq⟩ := body cdv A outer s H vs Q E p (hr.deeper _) hsp
  have I := L2H.inv_startH (CX := CX0) (E := E) (cd := cdv) (f := f) S hpin e0 hl r z
  refine wpAny_mono (ht.nox.run [] s1 (L2.start N vs) H _ I hq) (fun fl s' hs => ?_) fun e s' hs => hs
  cases fl with
  | ret u =>
    obtain ⟨v, σ', H', J, rv, q⟩ := hs
    exact ⟨v, H', J.os, J.bare, J.base, J.hok, rv, q⟩
  | next =>
    obtain ⟨σ', H', J, q⟩ := hs
    exact ⟨V.non, H', J.os, J.bare, J.base, J.hok, rfl, q⟩
  | brk => exact hs.choose_spec.choose_spec.2.elim
  | cont => exact hs.choose_spec.choose_spec.2.elim
section
variable {X : Cx} {k : Nat} {f : Addr} {fd : FuncData} {ps : List Str} {sp : Addr × Obj → Sp} {x : Str} {q pos : Pos} {e : Expr} {es : List Expr} {t : TA}
/-- f(e, ..) within the suite -/
theorem pe_callP {p : Addr × Obj} {spr : Sp} (imp : ∀ vs H Q E, spr vs H Q E → sp p vs H Q E) (F : FnP X.prog X.w X.K X.mg X.base k f fd ps sp) (hr : L2H.RoomH k X.A) (hp : p ∈ X.pn) (hg : Gl X x) (hm : X.mg x = some (.ref f)) (hk : PySem.W.keepIn X.K (.ref f) = true) (hb : L2.Binds X.K fd ps []) (ha : PA X (e :: es) t)
    (hdb : (x == ("__debug__" : Str)) = false := by decide) (he : starEach (e :: es) X.env = (false, eval e X.env) :: starEach es X.env := by rfl) (hpl : (backTo pos (starEach es X.env)).any (·.1) = false := by rfl) :
    PE X (.Call (.Name x q) (e :: es) [] pos) (fun σ H Q => t σ H fun vs H1 => spr vs H1 Q E0) := by
  constructor
  intro pins s σ H Q I h
  refine wpAny_Call_Name_kw (ld_glob I hg hm ?_ hdb)
  refine PySem.W.callWith_K (h₀ := X.base) I.ok.mod.kin hk (thn (ha.run pos pins s σ H _ I h) fun us s1 ⟨vs, H1, I1, r, hq0⟩ => ⟨I1.kIn, ?_⟩) he hpl
  have hq := imp _ _ _ _ hq0
  have hl : us.length = ps.length := by
    rw [← r.length]
    exact F.len _ _ _ _ _ hq
  have b := hb s1 us I1.kIn (by rw [List.append_nil]; exact hl)
  rw [List.append_nil] at b
  have P1 := I1.pin p (List.mem_append_left _ hp)
  have hpin : L2H.PinOk X.stack H1 s1 p := ⟨P1.1, P1.2.1, fun hm => (List.mem_cons.mp (I1.stkSub p.1 hm)).elim P1.2.2.1 P1.2.2.2.1, P1.2.2.2.2⟩
  refine wpAny_call (codeAny_mono (F.run X.A X.stack s1 H1 ⟨us, []⟩ us vs Q E0 p hr hpin I1.env0 b r hq) fun r s' hq' => ?_)
  cases r with
  | error er => exact False.elim hq'
  | ok fl =>
    cases fl with
    | ret u => exact I1.after hq'
    | next => exact False.elim hq'
    | brk => exact False.elim hq'
    | cont => exact False.elim hq'
/-- isinstance(e, c), e the error that is caught -/
def rIsP (K : PySem.W.Frag) (p : Addr × Obj) : List V → Hp → VK → Prop := fun xs H Q => ∃ (C : Addr) (c : V) (u : Value) (b : Bool), xs = [.ref p.1, c] ∧ p.2.cls = .ref C ∧ (∃ vs, p.2.data = .fields vs) ∧ ExcC K C ∧
  (p.2.dict = none ∨ ∃ dd fs, p.2.dict = some dd ∧ H dd = some (.xd fs)) ∧ ClsV c u ∧ PySem.W.kitOne K (.ref C) u = some b ∧ Q (.bl b) H
theorem call_isP {p : Addr × Obj} (hp : p ∈ X.pn) : CallR X (.builtin "isinstance") (rIsP X.K p) := by
  intro pins s σ H xs us Q I r h
  obtain ⟨C, c, u, b, rfl, h1, ⟨vs, h2⟩, hc, hd, k, e, q⟩ := h
  obtain ⟨u1, u2, rfl, r1, r2⟩ := vals2 r
  have e2 := k.eq r2
  subst e2
  cases r1
  have P1 := I.pin p (List.mem_append_left _ hp)
  have ok : ∀ {od : Option Obj}, PySem.W.findObj X.K C od "__class__" = some (.bind (.builtin "getset_descriptor.__get__") (.builtin "object.__class__")) := fun {od} => by
    obtain ⟨cd, hcd, _⟩ := PySem.W.any_some hc.hd
    have hs : (PySem.W.clsIn X.K C).isSome = true := by
      rw [hcd]
      rfl
    cases od with
    | none => exact PySem.W.findObj_dataN hs hc.ha hc.hn hc.ht
    | some o => exact PySem.W.findObj_data hs hc.ha hc.hn hc.ht
  obtain ⟨od, J⟩ : ∃ od, PySem.W.InstAt s.heap p.1 p.2 C od := by
    rcases hd with hd | ⟨dd, fs, hd, ed⟩
    · exact ⟨none, P1.1, h1, by unfold PySem.W.notCls; rw [h2], by rw [hd]; trivial⟩
    · have z : ObjOk X.prog X.w H s.heap dd (.xd fs) := I.hok dd _ ed
      obtain ⟨mA, hns, _⟩ := z
      obtain ⟨o, ho, _⟩ := lookIn_ns hns
      exact ⟨some o, P1.1, h1, by unfold PySem.W.notCls; rw [h2], by rw [hd]; exact ho⟩
  exact PySem.W.kia_one (PySem.W.exk_kit hc.hg hc.hk hc.hs hc.hd ok hc.hm) I.kIn J e (fun z => nomatch z) fun tk => ⟨.bl b, H, I.tok tk, rfl, q⟩
end
/-! ### the pool that a law draws from -/
abbrev sBegin : Stmt := top 34
abbrev sMixed : Stmt := top 35
abbrev sDraw : Stmt := top 36

structure PTxt (mg : Str → Option Value) : Prop where
  int : mg "int" = none
  abs : mg "abs" = none
  len : mg "len" = none
  str : mg "str" = none
  range : mg "range" = none

/-- what stands at p is a pool, whose numbers stand at q -/
def PoolAt (H : Hp) (p q : Addr) : Prop := ∃ (ns : List Int) (i a s b : Int), H p = some (.lst [.ref q, .int i, .int a, .int s, .int b]) ∧ H q = some (.lst (ns.map V.int)) ∧ 0 ≤ i ∧ ∀ n ∈ ns, 0 ≤ n
theorem PoolAt.ne {H : Hp} {p q : Addr} (h : PoolAt H p q) : p ≠ q := by
  obtain ⟨ns, i, a, s, b, h1, h2, _, _⟩ := h
  refine ne_of h1 h2 ?_
  intro e
  injection e with e
  cases ns with
  | nil => cases e
  | cons n r => injection e with e _; cases e
/-- all but the pool is as it was -/
def But (p q : Addr) (H H' : Hp) : Prop := ∀ b o, b ≠ p → b ≠ q → H b = some o → H' b = some o
theorem But.refl (p q : Addr) (H : Hp) : But p q H H := fun _ _ _ _ h => h
theorem But.trans {p q : Addr} {H H1 H2 : Hp} (a : But p q H H1) (b : But p q H1 H2) : But p q H H2 := fun c o n1 n2 h => b c o n1 n2 (a c o n1 n2 h)
theorem But.of_same {p q : Addr} {H H1 : Hp} (a : Same H H1) : But p q H H1 := fun c o _ _ h => a c o h
theorem But.updP {p q : Addr} {H : Hp} {o : HO} : But p q H (upd H p o) := fun c u n1 _ h => by rw [upd_ne n1]; exact h
theorem But.updQ {p q : Addr} {H : Hp} {o : HO} : But p q H (upd H q o) := fun c u _ n2 h => by rw [upd_ne n2]; exact h
theorem PoolAt.same {H H' : Hp} {p q : Addr} (h : PoolAt H p q) (s : Same H H') : PoolAt H' p q := by
  obtain ⟨ns, i, a, z, b, h1, h2, h3⟩ := h
  exact ⟨ns, i, a, z, b, s _ _ h1, s _ _ h2, h3⟩

def spBegin (K : PySem.W.Frag) : Sp := fun vs H Q _ => ∃ (a : Addr) (ns : List Int), vs = [.ref a] ∧ SqL K H a (ns.map V.int) ∧ ns.length ≤ 63 ∧
  ∀ H' p q, Same H H' → H p = none → H q = none → PoolAt H' p q → Q (.ref p) H'
def spMixed : Sp := fun vs H Q _ => ∃ (p q : Addr) (m : Int), vs = [.ref p, .int m] ∧ PoolAt H p q ∧ 1 ≤ m ∧ m < 10 ^ 40 ∧
  ∀ H' (r : Int), But p q H H' → PoolAt H' p q → 0 ≤ r → r < m → Q (.int r) H'
/-- from a pool a number from 0 to m - 1 -/
def spDraw : Sp := fun vs H Q _ => ∃ (p q : Addr) (m : Int), vs = [.ref p, .int m] ∧ PoolAt H p q ∧ 1 ≤ m ∧ m < 10 ^ 40 ∧
  ∀ H' (r : Int), But p q H H' → PoolAt H' p q → 0 ≤ r → r < m → Q (.int r) H'

theorem map_int_get {ns : List Int} {i : Nat} {y : V} (hi : (ns.map V.int)[i]? = some y) : ∃ u, y = V.int u ∧ ns[i]? = some u := by
  rw [List.getElem?_map] at hi
  cases e : ns[i]? with
  | none => rw [e] at hi; cases hi
  | some u => rw [e] at hi; exact ⟨u, (Option.some.inj hi).symm, rfl⟩

section
variable {P : Program} {w : World} {K : PySem.W.Frag} {mg : Str → Option Value} {base : Heap}
theorem scBegin : FnScope ["script", "seed", "cell"] ["script"] (defScope sBegin) := ⟨rfl, rfl, rfl, by decide +kernel, rfl, by decide +kernel, by decide +kernel⟩
theorem ok_begin {f : Addr} {fd : FuncData} (F : Fun K "_law_begin" "_law_begin" sBegin f fd) (T : PTxt mg) : FnOk P w K mg base CX0 1 f fd ["script"] (spBegin K) := by
  refine F.ok scBegin (fun vs H Q E h => ?_) (fun cdv A outer s H vs Q E hr h => ?_)
  · obtain ⟨a, ns, rfl, _⟩ := h
    rfl
  · obtain ⟨a, ns, rfl, hS, hlen, k⟩ := h
    refine ⟨_, pss_cons (ps_set (i := 1) scBegin.nd rfl (.inl rfl) pe_int)
      (pss_cons (ps_for PassesOwn.never rfl (pi_list (pe_slice sl_list (pv 0) po_none (po_some pe_int))) (pg_name (i := 2) scBegin.nd rfl (.inl rfl))
        (pss_one (ps_set (i := 1) scBegin.nd rfl (.inl rfl) (pe_op op_mod (pe_op op_add (pe_op op_add (pe_op op_mul (pv 1) pe_int) (pe_op op_mod (pe_callTy call_int1 (by rfl) T.int (by decide +kernel) (pa_cons (pv 2) pa_nil)) pe_int)) pe_int) pe_int))))
      (pss_one (ps_ret (pe_lst (pa_cons (pe_lc (own := [("cell", 2)]) (g := gName 2) (by rfl) scBegin.nd (pi_list (pv 0)) (blkOk_by (own := [("cell", 2)]) (N := ["script", "seed", "cell"]) (sc := defScope sBegin) (by decide +kernel))
        (fun _ _ _ _ _ => pg_name (i := 2) scBegin.nd rfl (Or.inl rfl)) (fun _ _ _ _ _ => pts_nil)
        (fun _ _ _ _ _ => pe_callB call_abs (by rfl) T.abs (by decide +kernel) (pa_cons (pe_callTy call_int1 (by rfl) T.int (by decide +kernel) (pa_cons (pv 2) pa_nil)) pa_nil)))
        (pa_cons pe_int (pa_cons pe_int (pa_cons (pv 1) (pa_cons pe_int pa_nil))))))))), ?_⟩
    refine ⟨_, rfl, _, rfl, a, _, rfl, hS, fun p hp => ?_⟩
    refine ⟨p, rfl, ⟨_, .inl (.inl upd_same)⟩, for_list (K := K) (a := p) (xs := cutV (ns.map V.int) none (some 40)) (fun i σ H' => ∃ (z : Int) (v : Option V), σ = [some (.ref a), some (.int z), v] ∧ H' = upd H p (.lst (cutV (ns.map V.int) none (some 40)))) 
      ⟨7, none, rfl, rfl⟩ (fun i σ H' _ ⟨_, _, _, e⟩ => by rw [e]; exact .inl (.inl upd_same)) ?_ ?_⟩
    · rintro i y σ H' hi ⟨z, v, rfl, rfl⟩
      obtain ⟨u, rfl⟩ : ∃ u, y = V.int u := by
        have hm := List.mem_of_getElem? hi
        have hm2 := List.mem_of_mem_drop (List.mem_of_mem_take hm)
        obtain ⟨u, _, e⟩ := List.mem_map.mp hm2
        exact ⟨u, e.symm⟩
      refine ⟨_, rfl, _, _, rfl, rfl, .inr ⟨by decide, by decide⟩, _, rfl, .inl ⟨_, rfl, _, _, rfl, rfl, (by show (0 : Int) < 2147483647; decide), _, _, rfl, rfl, _, _, rfl, rfl, _, _, rfl, rfl, (by show (0 : Int) < 2147483647; decide), _, _, rfl, rfl⟩⟩
    · rintro σ H' ⟨z, v, rfl, rfl⟩
      have sp : Same H (upd H p (.lst (cutV (ns.map V.int) none (some 40)))) := fun b o e => by
        rw [upd_ne (ne_of_none e hp)]
        exact e
      refine ⟨_, rfl, a, rfl, ⟨_, sp.seq hS⟩, fun D hD => ?_⟩
      have hS1 := sp.seq hS
      generalize hH1 : upd H p (.lst (cutV (ns.map V.int) none (some 40))) = H1 at *
      have sD : ∀ u, Same H1 (upd H1 D u) := fun u b o e => by
        rw [upd_ne (ne_of_none e hD)]
        exact e
      refine lc_list (K := K) (a := a) (xs := ns.map V.int) (fun i H' => ∃ zs : List Int, H' = upd H1 D (.lst (zs.map V.int)) ∧ zs.length = i ∧ ∀ n ∈ zs, 0 ≤ n) ⟨[], rfl, rfl, fun _ h => nomatch h⟩ (fun i H' _ ⟨zs, e, _⟩ => by rw [e]; exact (sD _).seq hS1) ?_ ?_
      · rintro i y H' hi ⟨zs, rfl, hz, hp0⟩
        obtain ⟨u, rfl, hu⟩ := map_int_get hi
        have hi63 : i < ns.length := (List.getElem?_eq_some_iff.mp hu).1
        refine ⟨rfl, _, rfl, .inl ⟨_, rfl, _, rfl, _, upd_same, ?_, zs ++ [if u < 0 then -u else u], ?_, ?_, ?_⟩⟩
        · rw [List.length_map]
          exact Nat.lt_of_le_of_lt (show zs.length ≤ 63 by omega) (by decide)
        · rw [upd_upd, List.map_append]
          rfl
        · rw [List.length_append, hz]
          rfl
        · intro n hn
          rcases List.mem_append.mp hn with h | h
          · exact hp0 n h
          · rw [List.mem_singleton.mp h]
            split <;> omega
      · rintro H' ⟨zs, rfl, hz, hp0⟩
        refine ⟨_, rfl, (by show 5 ≤ sizeLine; decide), fun p2 hp2 => ?_⟩
        have nDp : D ≠ p2 := fun e => by
          rw [← e, upd_same] at hp2
          cases hp2
        have hp2' : H1 p2 = Option.none := by
          rw [upd_ne nDp.symm] at hp2
          exact hp2
        refine k _ p2 D (Same.trans sp (fun b o e => ?_)) (sp.free hp2') (sp.free hD) ⟨zs, 0, 0, z, 0, upd_same, ?_, by decide, hp0⟩
        · rw [upd_ne (ne_of_none e hp2')]
          exact sD _ _ _ e
        · rw [upd_ne nDp, upd_same]

theorem numlen {m : Int} (h0 : 0 ≤ m) (h1 : m < 10 ^ 40) : (Str.ofString (toString m)).length ≤ 40 := PyProof.Rows.toString_length_le h0 (by decide) h1

theorem natlt {m : Int} (h1 : 1 ≤ m) (h2 : m < 10 ^ 40) : m.natAbs < 2 ^ 140 := by
  have e : (10 : Int) ^ 40 ≤ 2 ^ 140 := by decide
  have e2 : ((2 ^ 140 : Nat) : Int) = (2 : Int) ^ 140 := by decide
  omega
theorem natlog {m : Int} (h1 : 1 ≤ m) (h2 : m < 10 ^ 40) : m.natAbs.log2 < 140 := PySem.Flt.log2_lt_of (by decide) (natlt h1 h2)
theorem scMixed : FnScope ["pool", "many", "found", "turn"] ["pool", "many"] (defScope sMixed) := ⟨rfl, rfl, rfl, by decide +kernel, rfl, by decide +kernel, by decide +kernel⟩
theorem ok_mixed {f : Addr} {fd : FuncData} (F : Fun K "_law_mixed" "_law_mixed" sMixed f fd) (T : PTxt mg) : FnOk P w K mg base CX0 1 f fd ["pool", "many"] spMixed := by
  refine F.ok scMixed (fun vs H Q E h => ?_) (fun cdv A outer s H vs Q E hr h => ?_)
  · obtain ⟨p, q, m, rfl, _⟩ := h
    rfl
  · obtain ⟨p, q, m, rfl, hP, h1, h2, k⟩ := h
    have npq := hP.ne
    obtain ⟨ns, i, a, z, b, hp, hq, hi, hns⟩ := hP
    refine ⟨_, pss_cons (ps_asg (pe_op op_add (pe_ix ix_list (pv 0) pe_int (fun _ _ => rfl)) pe_int) (pg_sub (pv 0) pe_int set_list))
      (pss_cons (ps_set (i := 2) scMixed.nd rfl (.inl rfl) (pe_ix ix_list (pv 0) pe_int (fun _ _ => rfl)))
      (pss_cons (ps_for PassesOwn.never rfl (pi_range1 rfl T.range (pa_cons (pe_op op_add pe_int (pe_op op_fdiv (pe_callB call_len_str (by rfl) T.len PySem.boot_len (pa_cons (pe_callTy call_str_int (by rfl) T.str (by decide +kernel) (pa_cons (pv 1) pa_nil)) pa_nil)) pe_int)) pa_nil)) (pg_name (i := 3) scMixed.nd rfl (.inl rfl))
        (pss_cons (ps_asg (pe_op op_mod (pe_op op_add (pe_op op_add (pe_op op_mul (pe_ix ix_list (pv 0) pe_int (fun _ _ => rfl)) pe_int) (pe_op op_mul (pe_ix ix_list (pv 0) pe_int (fun _ _ => rfl)) pe_int)) pe_int) pe_int) (pg_sub (pv 0) pe_int set_list))
        (pss_one (ps_set (i := 2) scMixed.nd rfl (.inl rfl) (pe_op op_add (pe_op op_mul (pv 2) pe_int) (pe_op op_fdiv (pe_ix ix_list (pv 0) pe_int (fun _ _ => rfl)) pe_int))))))
      (pss_one (ps_ret (pe_op op_mod (pv 2) (pv 1)))))), ?_⟩
    refine ⟨_, rfl, p, _, 2, _, rfl, rfl, .inl (.inl hp), rfl, _, _, rfl, rfl, _, rfl, p, _, 2, 2, rfl, rfl, hp, rfl, ?_⟩
    refine ⟨_, rfl, p, _, 3, _, rfl, rfl, .inl (.inl upd_same), rfl, ?_⟩
    have hl := numlen (by omega : 0 ≤ m) h2
    have hlog : m.natAbs.log2 < 1920 := Nat.lt_trans (natlog h1 h2) (by decide)
    refine ⟨_, rfl, _, rfl, hlog, _, rfl, Nat.le_trans hl (by decide), _, _, rfl, rfl, ⟨by decide, by decide⟩, _, _, rfl, rfl, _, rfl, ?_, ?_, ?_⟩
    · show -(2 ^ 62) ≤ (1 : Int) + ((Str.ofString (toString m)).length : Int) / 9
      omega
    · show (1 : Int) + ((Str.ofString (toString m)).length : Int) / 9 < 2 ^ 62
      omega
    · refine for_range (lo := 0) (n := ((1 : Int) + ((Str.ofString (toString m)).length : Int) / 9).toNat) (fun j σ H' => ∃ (s' f' : Int) (v : Option V), σ = [some (.ref p), some (.int m), some (.int f'), v] ∧ H' = upd H p (.lst [.ref q, .int i, .int (a + 1), .int s', .int b]))
        ⟨_, _, none, rfl, rfl⟩ ?_ ?_
      · rintro j σ H' _ ⟨s', f', v, rfl, rfl⟩
        refine ⟨_, rfl, p, _, 3, _, rfl, rfl, .inl (.inl upd_same), rfl, _, _, rfl, rfl, .inr ⟨by decide, by decide⟩, _, rfl, p, _, 2, _, rfl, rfl, .inl (.inl upd_same), rfl, _, _, rfl, rfl, .inr ⟨by decide, by decide⟩, _, _, rfl, rfl, _, _, rfl, rfl, _, _, rfl, rfl, (by show (0 : Int) < 2147483647; decide), _, rfl, p, _, 3, 3, rfl, rfl, upd_same, rfl, ?_⟩
        refine ⟨_, rfl, _, _, rfl, rfl, .inr ⟨by decide, by decide⟩, _, rfl, p, _, 3, _, rfl, rfl, .inl (.inl upd_same), rfl, _, _, rfl, rfl, ⟨by decide, by decide⟩, _, _, rfl, rfl, ?_⟩
        exact ⟨_, _, _, rfl, by rw [upd_upd]; rfl⟩
      · rintro σ H' ⟨s', f', v, rfl, rfl⟩
        refine ⟨_, rfl, _, rfl, _, _, rfl, rfl, (by show (0 : Int) < m; omega), ?_⟩
        exact k _ _ But.updP ⟨ns, i, a + 1, s', b, upd_same, by rw [upd_ne npq.symm]; exact hq, hi, hns⟩ (Int.emod_nonneg _ (by omega)) (Int.emod_lt_of_pos _ (by omega))

theorem ixN_nat {n i : Nat} (h : i < n) : ixN n (i : Int) = some i := by
  unfold ixN
  rw [if_pos (by omega), if_pos (by omega), Int.toNat_natCast]
theorem scDraw : FnScope ["pool", "many", "found"] ["pool", "many"] (defScope sDraw) := ⟨rfl, rfl, rfl, by decide +kernel, rfl, by decide +kernel, by decide +kernel⟩
theorem ok_draw {f fM : Addr} {fd fdM : FuncData} (F : Fun K "_law_draw" "_law_draw" sDraw f fd) (T : PTxt mg) (FM : Fun K "_law_mixed" "_law_mixed" sMixed fM fdM) (bM : Binds K fdM ["pool", "many"] []) (gM : mg "_law_mixed" = some (.ref fM)) : FnOk P w K mg base CX0 2 f fd ["pool", "many"] spDraw := by
  have GM : FnOk P w K mg base CX0 1 fM fdM ["pool", "many"] spMixed := ok_mixed FM T
  refine F.ok scDraw (fun vs H Q E h => ?_) (fun cdv A outer s H vs Q E hr h => ?_)
  · obtain ⟨p, q, m, rfl, _⟩ := h
    rfl
  · obtain ⟨p, q, m, rfl, hP, h1, h2, k⟩ := h
    have npq := hP.ne
    have hP0 := hP
    obtain ⟨ns, i, a, z, b, hp, hq, hi, hns⟩ := hP
    refine ⟨_, pss_cons (ps_if (PW.pt (pw_or (pt_cmpR op_ge (pe_ix ix_list (pv 0) pe_int (fun _ _ => rfl)) (pe_callB call_len_seq (by rfl) T.len PySem.boot_len (pa_cons (pe_ix ix_list (pv 0) pe_int (fun _ _ => rfl)) pa_nil)) (nomark _)) (pw_or1 (pt_cmpR op_eq (pv 1) pe_int (nomark _)))))
        (pss_one (ps_ret (pe_ifExp (pt_cmpR op_gt (pv 1) pe_int (nomark _)) (pe_call GM hr rfl gM FM.kp bM .nil pass0 (pa_cons (pv 0) (pa_cons (pv 1) pa_nil))) pe_int))) pss_nil)
      (pss_cons (ps_if (pt_cmpR op_lt (pe_ix ix_list (pe_ix ix_list (pv 0) pe_int (fun _ _ => rfl)) (pe_ix ix_list (pv 0) pe_int (fun _ _ => rfl)) (fun _ _ => rfl)) (pe_op op_pow pe_int pe_int) (nomark _))
        (pss_cons (ps_asg (pe_op op_mod (pe_op op_add (pe_op op_add (pe_op op_add (pe_op op_mul (pe_ix ix_list (pv 0) pe_int (fun _ _ => rfl)) pe_int) (pe_ix ix_list (pe_ix ix_list (pv 0) pe_int (fun _ _ => rfl)) (pe_ix ix_list (pv 0) pe_int (fun _ _ => rfl)) (fun _ _ => rfl))) (pe_ix ix_list (pv 0) pe_int (fun _ _ => rfl))) pe_int) pe_int) (pg_sub (pv 0) pe_int set_list))
        (pss_cons (ps_asg (pe_op op_add (pe_ix ix_list (pv 0) pe_int (fun _ _ => rfl)) pe_int) (pg_sub (pv 0) pe_int set_list))
        (pss_cons (ps_if (pt_cmpR op_eq (pe_op op_mod (pe_ix ix_list (pv 0) pe_int (fun _ _ => rfl)) pe_int) pe_int (nomark _)) (pss_one (ps_asg (pe_op op_add (pe_ix ix_list (pv 0) pe_int (fun _ _ => rfl)) pe_int) (pg_sub (pv 0) pe_int set_list))) pss_nil)
        (pss_one (ps_ret (pe_call GM hr rfl gM FM.kp bM .nil pass0 (pa_cons (pv 0) (pa_cons (pv 1) pa_nil)))))))) pss_nil)
      (pss_cons (ps_set (i := 2) scDraw.nd rfl (.inl rfl) (pe_op op_mod (pe_ix ix_list (pe_ix ix_list (pv 0) pe_int (fun _ _ => rfl)) (pe_ix ix_list (pv 0) pe_int (fun _ _ => rfl)) (fun _ _ => rfl)) (pv 1)))
      (pss_cons (ps_asg (pe_op op_fdivW (pe_ix ix_list (pe_ix ix_list (pv 0) pe_int (fun _ _ => rfl)) (pe_ix ix_list (pv 0) pe_int (fun _ _ => rfl)) (fun _ _ => rfl)) (pv 1)) (pg_sub (pe_ix ix_list (pv 0) pe_int (fun _ _ => rfl)) (pe_ix ix_list (pv 0) pe_int (fun _ _ => rfl)) set_list))
      (pss_cons (ps_if (pt_cmpR op_eq (pe_ix ix_list (pe_ix ix_list (pv 0) pe_int (fun _ _ => rfl)) (pe_ix ix_list (pv 0) pe_int (fun _ _ => rfl)) (fun _ _ => rfl)) pe_int (nomark _)) (pss_one (ps_asg (pe_op op_add (pe_ix ix_list (pv 0) pe_int (fun _ _ => rfl)) pe_int) (pg_sub (pv 0) pe_int set_list))) pss_nil)
      (pss_one (ps_ret (pv 2))))))), ?_⟩
    have sp : SqL K H p [.ref q, .int i, .int a, .int z, .int b] := .inl (.inl hp)
    have sq : SqL K H q (ns.map V.int) := .inl (.inl hq)
    have cmix : ∀ H1 : Hp, But p q H H1 → PoolAt H1 p q → spMixed [.ref p, .int m] H1 Q E := fun H1 e1 e2 => ⟨p, q, m, rfl, e2, h1, h2, fun H2 r b2 p2 r0 r1 => k H2 r (e1.trans b2) p2 r0 r1⟩
    -- if pool[1] >= len(pool[0]) or many == 1
    refine ⟨_, rfl, p, _, 1, _, rfl, rfl, sp, rfl, _, rfl, p, _, 0, _, rfl, rfl, sp, rfl, q, _, rfl, .inl sq, _, _, rfl, rfl, _, rfl, ?_⟩
    have hlen : ((ns.map V.int).length : Int) = (ns.length : Int) := by rw [List.length_map]
    refine ite2 (fun _ => ?_) (fun hlt => ?_)
    · refine ⟨_, rfl, _, _, rfl, rfl, _, rfl, ite2 (fun _ => ?_) (fun e => ?_)⟩
      · exact ⟨_, rfl, _, rfl, cmix H (But.refl _ _ _) hP0⟩
      · exact k H 0 (But.refl _ _ _) hP0 (by omega) (by omega)
    · refine ⟨_, rfl, rfl, _, rfl, ite2 (fun e => ?_) (fun hm1 => ?_)⟩
      · refine ⟨_, rfl, _, _, rfl, rfl, _, rfl, ite2 (fun _ => ?_) (fun e => ?_)⟩
        · exact ⟨_, rfl, _, rfl, cmix H (But.refl _ _ _) hP0⟩
        · exact k H 0 (But.refl _ _ _) hP0 (by omega) (by omega)
      · have hil : i < (ns.length : Int) := by
          have := hlt
          simp only [decide_eq_true_eq] at this
          omega
        obtain ⟨j, rfl⟩ : ∃ j : Nat, i = (j : Int) := ⟨i.toNat, by omega⟩
        have hj : j < ns.length := by omega
        obtain ⟨x, hx⟩ : ∃ x, ns[j]? = some x := ⟨ns[j], List.getElem?_eq_getElem hj⟩
        have hxm : (ns.map V.int)[j]? = some (V.int x) := by rw [List.getElem?_map, hx]; rfl
        have hat : atI (ns.map V.int) (j : Int) = some (V.int x) := atI_nat hxm
        have hx0 : 0 ≤ x := hns x (List.mem_of_getElem? hx)
        have hixN : ixN (ns.map V.int).length (j : Int) = some j := ixN_nat (by rw [List.length_map]; exact hj)
        -- if pool[0][pool[1]] < 10 ** 18
        refine ⟨_, rfl, p, _, 0, _, rfl, rfl, sp, rfl, _, rfl, p, _, 1, _, rfl, rfl, sp, rfl, q, _, _, _, rfl, rfl, sq, hat, _, _, rfl, rfl, ⟨by decide, by decide, by decide⟩, _, _, rfl, rfl, _, rfl, ite2 (fun _ => ?_) (fun _ => ?_)⟩
        · refine ⟨_, rfl, p, _, 3, _, rfl, rfl, sp, rfl, _, _, rfl, rfl, .inr ⟨by decide, by decide⟩, _, rfl, p, _, 0, _, rfl, rfl, sp, rfl, _, rfl, p, _, 1, _, rfl, rfl, sp, rfl, q, _, _, _, rfl, rfl, sq, hat, _, _, rfl, rfl, _, rfl, p, _, 2, _, rfl, rfl, sp, rfl, _, _, rfl, rfl, _, _, rfl, rfl, _, _, rfl, rfl, (by show (0 : Int) < 2147483647; decide), _, rfl, p, _, 3, 3, rfl, rfl, hp, rfl, ?_⟩
          refine ⟨_, rfl, p, _, 4, _, rfl, rfl, .inl (.inl upd_same), rfl, _, _, rfl, rfl, _, rfl, p, _, 4, 4, rfl, rfl, upd_same, rfl, ?_⟩
          rw [upd_upd]
          refine ⟨_, rfl, p, _, 4, _, rfl, rfl, .inl (.inl upd_same), rfl, _, _, rfl, rfl, (by show (0 : Int) < 3; decide), rfl, _, rfl, ite2 (fun _ => ?_) (fun _ => ?_)⟩
          · refine ⟨_, rfl, p, _, 1, _, rfl, rfl, .inl (.inl upd_same), rfl, _, _, rfl, rfl, _, rfl, p, _, 1, 1, rfl, rfl, upd_same, rfl, ?_⟩
            rw [upd_upd]
            refine ⟨_, rfl, _, rfl, cmix _ But.updP ⟨ns, (j : Int) + 1, a, (z * 31 + x + a + 1) % 2147483647, b + 1, upd_same, by rw [upd_ne npq.symm]; exact hq, by omega, hns⟩⟩
          · refine ⟨_, rfl, _, rfl, cmix _ But.updP ⟨ns, (j : Int), a, (z * 31 + x + a + 1) % 2147483647, b + 1, upd_same, by rw [upd_ne npq.symm]; exact hq, by omega, hns⟩⟩
        · -- found = pool[0][pool[1]] % many
          refine ⟨_, rfl, p, _, 0, _, rfl, rfl, sp, rfl, _, rfl, p, _, 1, _, rfl, rfl, sp, rfl, q, _, _, _, rfl, rfl, sq, hat, _, rfl, _, _, rfl, rfl, (by show (0 : Int) < m; omega), ?_⟩
          refine ⟨_, rfl, p, _, 0, _, rfl, rfl, sp, rfl, _, rfl, p, _, 1, _, rfl, rfl, sp, rfl, q, _, _, _, rfl, rfl, sq, hat, _, rfl, _, _, rfl, rfl, wide_div (by omega) (natlt h1 h2) (by decide) (by decide), _, rfl, p, _, 0, _, rfl, rfl, sp, rfl, _, rfl, p, _, 1, _, rfl, rfl, sp, rfl, q, _, _, _, rfl, rfl, hq, hixN, ?_⟩
          have eS : (ns.map V.int).set j (V.int (x / m)) = (ns.set j (x / m)).map V.int := by rw [List.map_set]
          rw [eS]
          have hns' : ∀ n ∈ ns.set j (x / m), 0 ≤ n := fun n hn => by
            rcases List.mem_or_eq_of_mem_set hn with h | h
            · exact hns n h
            · rw [h]
              exact Int.ediv_nonneg hx0 (by omega)
          have hp' : (upd H q (HO.lst ((ns.set j (x / m)).map V.int))) p = some (.lst [.ref q, .int (j : Int), .int a, .int z, .int b]) := by
            rw [upd_ne npq]
            exact hp
          have hq' : (upd H q (HO.lst ((ns.set j (x / m)).map V.int))) q = some (.lst ((ns.set j (x / m)).map V.int)) := upd_same
          have hat' : atI ((ns.set j (x / m)).map V.int) (j : Int) = some (V.int (x / m)) := atI_nat (by
            rw [List.getElem?_map, List.getElem?_set_self hj]
            rfl)
          have r0 : 0 ≤ x % m := Int.emod_nonneg _ (by omega)
          have r1 : x % m < m := Int.emod_lt_of_pos _ (by omega)
          have hB : But p q H (upd H q (HO.lst ((ns.set j (x / m)).map V.int))) := But.updQ
          generalize upd H q (HO.lst ((ns.set j (x / m)).map V.int)) = H1 at *
          have sp1 : SqL K H1 p [.ref q, .int (j : Int), .int a, .int z, .int b] := .inl (.inl hp')
          have sq1 : SqL K H1 q ((ns.set j (x / m)).map V.int) := .inl (.inl hq')
          refine ⟨_, rfl, p, _, 0, _, rfl, rfl, sp1, rfl, _, rfl, p, _, 1, _, rfl, rfl, sp1, rfl, q, _, _, _, rfl, rfl, sq1, hat', rfl, _, rfl, ite2 (fun _ => ?_) (fun _ => ?_)⟩
          · refine ⟨_, rfl, p, _, 1, _, rfl, rfl, sp1, rfl, _, _, rfl, rfl, _, rfl, p, _, 1, 1, rfl, rfl, hp', rfl, ?_⟩
            exact ⟨_, rfl, k _ _ (hB.trans But.updP) ⟨_, (j : Int) + 1, a, z, b, upd_same, by rw [upd_ne npq.symm]; exact hq', by omega, hns'⟩ r0 r1⟩
          · exact ⟨_, rfl, k _ _ hB ⟨_, (j : Int), a, z, b, hp', hq', by omega, hns'⟩ r0 r1⟩
end
set_option maxHeartbeats 4000000
/-! ### the errors, caught -/
abbrev sWhich : Stmt := top 39
abbrev sCaught : Stmt := top 40
/-- what the written part says of the errors, for those who catch them -/
structure HTxt (K : PySem.W.Frag) (mg : Str → Option Value) (cH : Addr) (cs : List Addr) : Prop where
  isi : mg "isinstance" = none
  reprN : mg "repr" = none
  gH : mg "HandleError" = some (.ref cH)
  g0 : mg "InvalidNumber" = some (.ref (cs.getD 0 0))
  g1 : mg "InvalidName" = some (.ref (cs.getD 1 0))
  g2 : mg "InvalidRow" = some (.ref (cs.getD 2 0))
  g3 : mg "InvalidSort" = some (.ref (cs.getD 3 0))
  g4 : mg "InvalidProgram" = some (.ref (cs.getD 4 0))
  g5 : mg "InvalidText" = some (.ref (cs.getD 5 0))
  g6 : mg "InvalidBook" = some (.ref (cs.getD 6 0))
  g7 : mg "InvalidHands" = some (.ref (cs.getD 7 0))
  g8 : mg "InvalidStep" = some (.ref (cs.getD 8 0))
  g9 : mg "InvalidEdit" = some (.ref (cs.getD 9 0))
  g10 : mg "InvalidCommand" = some (.ref (cs.getD 10 0))
  g11 : mg "TooMany" = some (.ref (cs.getD 11 0))
  g12 : mg "NothingToUndo" = some (.ref (cs.getD 12 0))
  ex : ∀ i, i < 13 → ExcC K (cs.getD i 0)
  xf : ∀ i, i < 12 → XfC K (cs.getD i 0)
  noV : ∀ i, i < 11 → PySem.W.findIn K (.ref (cs.getD i 0)) "value" = some none
  kit : ∀ i j, i < 13 → j < 13 → PySem.W.kitOne K (.ref (cs.getD i 0)) (.ref (cs.getD j 0)) = some (decide (i = j))
  kitH : ∀ i, i < 13 → PySem.W.kitOne K (.ref (cs.getD i 0)) (.ref cH) = some (decide (i < 11))
  exmH : ∀ i, i < 13 → PySem.W.exmOne K (.ref (cs.getD i 0)) (.ref cH) = some (decide (i < 11))
def whichL : List Str := ["number", "name", "row", "sort", "program", "text", "book", "hands", "step", "edit", "command", "many", "undo"]
/-- which error it is that is caught -/
def spWhichP (K : PySem.W.Frag) (cs : List Addr) (p : Addr × Obj) : Sp := fun vs H Q _ => ∃ i : Nat, vs = [.ref p.1] ∧ i < 13 ∧ p.2.cls = .ref (cs.getD i 0) ∧ (∃ vs, p.2.data = .fields vs) ∧
  (p.2.dict = none ∨ ∃ dd fs, p.2.dict = some dd ∧ H dd = some (.xd fs)) ∧ ∀ H', Same H H' → Q (.str (whichL.getD i "")) H'
theorem same_xd {H H' : Hp} {p : Addr × Obj} (h : p.2.dict = none ∨ ∃ dd fs, p.2.dict = some dd ∧ H dd = some (.xd fs)) (s : Same H H') : p.2.dict = none ∨ ∃ dd fs, p.2.dict = some dd ∧ H' dd = some (.xd fs) := by
  rcases h with h | ⟨dd, fs, h, e⟩
  · exact .inl h
  · exact .inr ⟨dd, fs, h, s _ _ e⟩
section
variable {P : Program} {w : World} {K : PySem.W.Frag} {mg : Str → Option Value} {base : Heap} {cH : Addr} {cs : List Addr}
theorem scWhich : FnScope ["error", "kinds", "names"] ["error"] (defScope sWhich) := ⟨rfl, rfl, rfl, by decide +kernel, rfl, by decide +kernel, by decide +kernel⟩
def kindsL (i : Nat) (n : Nat) : List V := (List.range n).map fun j => V.bl (decide (i = j))
theorem ok_whichP {f : Addr} {fd : FuncData} (F : Fun K "_law_which" "_law_which" sWhich f fd) (T : HTxt K mg cH cs) : FnP P w K mg base 1 f fd ["error"] (spWhichP K cs) := by
  refine fnP_ok F scWhich (fun p vs H Q E h => ?_) (fun cdv A outer s H vs Q E p hr h => ?_)
  · obtain ⟨i, rfl, _⟩ := h
    rfl
  · obtain ⟨i, rfl, hi, c1, c2, c3, k⟩ := h
    have hex := T.ex i hi
    have hp : p ∈ [p] := List.mem_singleton.mpr rfl
    refine ⟨_, (pss_cons (ps_set (i := 1) scWhich.nd rfl (.inl rfl) (pe_lst (pa_cons (pe_callB (id := "isinstance") (r := rIsP K p) (call_isP hp) (by rfl) T.isi (by decide +kernel) (pa_cons (pv 0) (pa_cons (pe_glob (v := .ref (cs.getD 0 0)) rfl T.g0 rfl) pa_nil))) (pa_cons (pe_callB (id := "isinstance") (r := rIsP K p) (call_isP hp) (by rfl) T.isi (by decide +kernel) (pa_cons (pv 0) (pa_cons (pe_glob (v := .ref (cs.getD 1 0)) rfl T.g1 rfl) pa_nil))) (pa_cons (pe_callB (id := "isinstance") (r := rIsP K p) (call_isP hp) (by rfl) T.isi (by decide +kernel) (pa_cons (pv 0) (pa_cons (pe_glob (v := .ref (cs.getD 2 0)) rfl T.g2 rfl) pa_nil))) pa_nil)))))
      (pss_cons (ps_set (i := 1) scWhich.nd rfl (.inl rfl) (pe_op op_cat (pv 1) (pe_lst (pa_cons (pe_callB (id := "isinstance") (r := rIsP K p) (call_isP hp) (by rfl) T.isi (by decide +kernel) (pa_cons (pv 0) (pa_cons (pe_glob (v := .ref (cs.getD 3 0)) rfl T.g3 rfl) pa_nil))) (pa_cons (pe_callB (id := "isinstance") (r := rIsP K p) (call_isP hp) (by rfl) T.isi (by decide +kernel) (pa_cons (pv 0) (pa_cons (pe_glob (v := .ref (cs.getD 4 0)) rfl T.g4 rfl) pa_nil))) (pa_cons (pe_callB (id := "isinstance") (r := rIsP K p) (call_isP hp) (by rfl) T.isi (by decide +kernel) (pa_cons (pv 0) (pa_cons (pe_glob (v := .ref (cs.getD 5 0)) rfl T.g5 rfl) pa_nil))) pa_nil))))))
      (pss_cons (ps_set (i := 1) scWhich.nd rfl (.inl rfl) (pe_op op_cat (pv 1) (pe_lst (pa_cons (pe_callB (id := "isinstance") (r := rIsP K p) (call_isP hp) (by rfl) T.isi (by decide +kernel) (pa_cons (pv 0) (pa_cons (pe_glob (v := .ref (cs.getD 6 0)) rfl T.g6 rfl) pa_nil))) (pa_cons (pe_callB (id := "isinstance") (r := rIsP K p) (call_isP hp) (by rfl) T.isi (by decide +kernel) (pa_cons (pv 0) (pa_cons (pe_glob (v := .ref (cs.getD 7 0)) rfl T.g7 rfl) pa_nil))) (pa_cons (pe_callB (id := "isinstance") (r := rIsP K p) (call_isP hp) (by rfl) T.isi (by decide +kernel) (pa_cons (pv 0) (pa_cons (pe_glob (v := .ref (cs.getD 8 0)) rfl T.g8 rfl) pa_nil))) pa_nil))))))
      (pss_cons (ps_set (i := 1) scWhich.nd rfl (.inl rfl) (pe_op op_cat (pv 1) (pe_lst (pa_cons (pe_callB (id := "isinstance") (r := rIsP K p) (call_isP hp) (by rfl) T.isi (by decide +kernel) (pa_cons (pv 0) (pa_cons (pe_glob (v := .ref (cs.getD 9 0)) rfl T.g9 rfl) pa_nil))) (pa_cons (pe_callB (id := "isinstance") (r := rIsP K p) (call_isP hp) (by rfl) T.isi (by decide +kernel) (pa_cons (pv 0) (pa_cons (pe_glob (v := .ref (cs.getD 10 0)) rfl T.g10 rfl) pa_nil))) (pa_cons (pe_callB (id := "isinstance") (r := rIsP K p) (call_isP hp) (by rfl) T.isi (by decide +kernel) (pa_cons (pv 0) (pa_cons (pe_glob (v := .ref (cs.getD 11 0)) rfl T.g11 rfl) pa_nil))) pa_nil))))))
      (pss_cons (ps_set (i := 1) scWhich.nd rfl (.inl rfl) (pe_op op_cat (pv 1) (pe_lst (pa_cons (pe_callB (id := "isinstance") (r := rIsP K p) (call_isP hp) (by rfl) T.isi (by decide +kernel) (pa_cons (pv 0) (pa_cons (pe_glob (v := .ref (cs.getD 12 0)) rfl T.g12 rfl) pa_nil))) pa_nil))))
      (pss_cons (ps_if (PW.pt (pw_or (pt_cmpR op_ne (pe_bm PySem.F.plainAttrs_list PySem.F.slot_list_count PySem.F.type_list_count mt_count (pv 1) (pa_cons pe_bl pa_nil)) pe_int (nomark _)) (pw_or1 (pt_cmpR op_ne (pe_callB (id := "isinstance") (r := rIsP K p) (call_isP hp) (by rfl) T.isi (by decide +kernel) (pa_cons (pv 0) (pa_cons (pe_glob (v := .ref cH) rfl T.gH rfl) pa_nil))) (pe_cmpR op_lt (pe_bm PySem.F.plainAttrs_list PySem.F.slot_list_index PySem.F.type_list_index mt_index (pv 1) (pa_cons pe_bl pa_nil)) pe_int (nomark _)) (by rfl))))) (pss_one (ps_ret pe_str)) pss_nil)
      (pss_cons (ps_set (i := 2) scWhich.nd rfl (.inl rfl) (pe_lst (pa_cons pe_str (pa_cons pe_str (pa_cons pe_str (pa_cons pe_str (pa_cons pe_str (pa_cons pe_str (pa_cons pe_str (pa_cons pe_str (pa_cons pe_str (pa_cons pe_str (pa_cons pe_str (pa_cons pe_str pa_nil))))))))))))))
      (pss_one (ps_ret (pe_ix ix_list (pe_op op_cat (pv 2) (pe_lst (pa_cons pe_str pa_nil))) (pe_bm PySem.F.plainAttrs_list PySem.F.slot_list_index PySem.F.type_list_index mt_index (pv 1) (pa_cons pe_bl pa_nil)) (fun _ _ => rfl))))))))))), ?_⟩
    refine ⟨_, rfl, _, .ref _, _, decide (i = 0), rfl, c1, c2, hex, c3, .own _, T.kit i 0 hi (by decide), ⟨_, rfl, _, .ref _, _, decide (i = 1), rfl, c1, c2, hex, c3, .own _, T.kit i 1 hi (by decide), ⟨_, rfl, _, .ref _, _, decide (i = 2), rfl, c1, c2, hex, c3, .own _, T.kit i 2 hi (by decide), (by show 3 ≤ sizeLine; decide), fun p0 hp0 => ?_⟩⟩⟩
    have z0 : Same H (upd H p0 (.lst [V.bl (decide (i = 0)), V.bl (decide (i = 1)), V.bl (decide (i = 2))])) := Same.new hp0
    have f0 : (upd H p0 (.lst [V.bl (decide (i = 0)), V.bl (decide (i = 1)), V.bl (decide (i = 2))])) p0 = some (.lst (kindsL i 3)) := upd_same
    generalize upd H p0 (.lst [V.bl (decide (i = 0)), V.bl (decide (i = 1)), V.bl (decide (i = 2))]) = G0 at *
    refine ⟨_, rfl, ⟨_, rfl, _, .ref _, _, decide (i = 3), rfl, c1, c2, hex, (same_xd c3 z0), .own _, T.kit i 3 hi (by decide), ⟨_, rfl, _, .ref _, _, decide (i = 4), rfl, c1, c2, hex, (same_xd c3 z0), .own _, T.kit i 4 hi (by decide), ⟨_, rfl, _, .ref _, _, decide (i = 5), rfl, c1, c2, hex, (same_xd c3 z0), .own _, T.kit i 5 hi (by decide), (by show 3 ≤ sizeLine; decide), fun l1 hl1 => ⟨p0, l1, kindsL i 3, [V.bl (decide (i = 3)), V.bl (decide (i = 4)), V.bl (decide (i = 5))], rfl, rfl, (Same.new hl1) _ _ f0, upd_same, (by show 6 ≤ sizeLine; decide), fun p1 hp1 => ?_⟩⟩⟩⟩⟩
    have z1 : Same H (upd (upd G0 l1 (.lst [V.bl (decide (i = 3)), V.bl (decide (i = 4)), V.bl (decide (i = 5))])) p1 (.lst (kindsL i 3 ++ [V.bl (decide (i = 3)), V.bl (decide (i = 4)), V.bl (decide (i = 5))]))) := z0.trans ((Same.new hl1).trans (Same.new hp1))
    have f1 : (upd (upd G0 l1 (.lst [V.bl (decide (i = 3)), V.bl (decide (i = 4)), V.bl (decide (i = 5))])) p1 (.lst (kindsL i 3 ++ [V.bl (decide (i = 3)), V.bl (decide (i = 4)), V.bl (decide (i = 5))]))) p1 = some (.lst (kindsL i 6)) := upd_same
    generalize upd (upd G0 l1 (.lst [V.bl (decide (i = 3)), V.bl (decide (i = 4)), V.bl (decide (i = 5))])) p1 (.lst (kindsL i 3 ++ [V.bl (decide (i = 3)), V.bl (decide (i = 4)), V.bl (decide (i = 5))])) = G1 at *
    refine ⟨_, rfl, ⟨_, rfl, _, .ref _, _, decide (i = 6), rfl, c1, c2, hex, (same_xd c3 z1), .own _, T.kit i 6 hi (by decide), ⟨_, rfl, _, .ref _, _, decide (i = 7), rfl, c1, c2, hex, (same_xd c3 z1), .own _, T.kit i 7 hi (by decide), ⟨_, rfl, _, .ref _, _, decide (i = 8), rfl, c1, c2, hex, (same_xd c3 z1), .own _, T.kit i 8 hi (by decide), (by show 3 ≤ sizeLine; decide), fun l2 hl2 => ⟨p1, l2, kindsL i 6, [V.bl (decide (i = 6)), V.bl (decide (i = 7)), V.bl (decide (i = 8))], rfl, rfl, (Same.new hl2) _ _ f1, upd_same, (by show 9 ≤ sizeLine; decide), fun p2 hp2 => ?_⟩⟩⟩⟩⟩
    have z2 : Same H (upd (upd G1 l2 (.lst [V.bl (decide (i = 6)), V.bl (decide (i = 7)), V.bl (decide (i = 8))])) p2 (.lst (kindsL i 6 ++ [V.bl (decide (i = 6)), V.bl (decide (i = 7)), V.bl (decide (i = 8))]))) := z1.trans ((Same.new hl2).trans (Same.new hp2))
    have f2 : (upd (upd G1 l2 (.lst [V.bl (decide (i = 6)), V.bl (decide (i = 7)), V.bl (decide (i = 8))])) p2 (.lst (kindsL i 6 ++ [V.bl (decide (i = 6)), V.bl (decide (i = 7)), V.bl (decide (i = 8))]))) p2 = some (.lst (kindsL i 9)) := upd_same
    generalize upd (upd G1 l2 (.lst [V.bl (decide (i = 6)), V.bl (decide (i = 7)), V.bl (decide (i = 8))])) p2 (.lst (kindsL i 6 ++ [V.bl (decide (i = 6)), V.bl (decide (i = 7)), V.bl (decide (i = 8))])) = G2 at *
    refine ⟨_, rfl, ⟨_, rfl, _, .ref _, _, decide (i = 9), rfl, c1, c2, hex, (same_xd c3 z2), .own _, T.kit i 9 hi (by decide), ⟨_, rfl, _, .ref _, _, decide (i = 10), rfl, c1, c2, hex, (same_xd c3 z2), .own _, T.kit i 10 hi (by decide), ⟨_, rfl, _, .ref _, _, decide (i = 11), rfl, c1, c2, hex, (same_xd c3 z2), .own _, T.kit i 11 hi (by decide), (by show 3 ≤ sizeLine; decide), fun l3 hl3 => ⟨p2, l3, kindsL i 9, [V.bl (decide (i = 9)), V.bl (decide (i = 10)), V.bl (decide (i = 11))], rfl, rfl, (Same.new hl3) _ _ f2, upd_same, (by show 12 ≤ sizeLine; decide), fun p3 hp3 => ?_⟩⟩⟩⟩⟩
    have z3 : Same H (upd (upd G2 l3 (.lst [V.bl (decide (i = 9)), V.bl (decide (i = 10)), V.bl (decide (i = 11))])) p3 (.lst (kindsL i 9 ++ [V.bl (decide (i = 9)), V.bl (decide (i = 10)), V.bl (decide (i = 11))]))) := z2.trans ((Same.new hl3).trans (Same.new hp3))
    have f3 : (upd (upd G2 l3 (.lst [V.bl (decide (i = 9)), V.bl (decide (i = 10)), V.bl (decide (i = 11))])) p3 (.lst (kindsL i 9 ++ [V.bl (decide (i = 9)), V.bl (decide (i = 10)), V.bl (decide (i = 11))]))) p3 = some (.lst (kindsL i 12)) := upd_same
    generalize upd (upd G2 l3 (.lst [V.bl (decide (i = 9)), V.bl (decide (i = 10)), V.bl (decide (i = 11))])) p3 (.lst (kindsL i 9 ++ [V.bl (decide (i = 9)), V.bl (decide (i = 10)), V.bl (decide (i = 11))])) = G3 at *
    refine ⟨_, rfl, ⟨_, rfl, _, .ref _, _, decide (i = 12), rfl, c1, c2, hex, (same_xd c3 z3), .own _, T.kit i 12 hi (by decide), (by show 1 ≤ sizeLine; decide), fun l4 hl4 => ⟨p3, l4, kindsL i 12, [V.bl (decide (i = 12))], rfl, rfl, (Same.new hl4) _ _ f3, upd_same, (by show 13 ≤ sizeLine; decide), fun p4 hp4 => ?_⟩⟩⟩
    have z4 : Same H (upd (upd G3 l4 (.lst [V.bl (decide (i = 12))])) p4 (.lst (kindsL i 12 ++ [V.bl (decide (i = 12))]))) := z3.trans ((Same.new hl4).trans (Same.new hp4))
    have f4 : (upd (upd G3 l4 (.lst [V.bl (decide (i = 12))])) p4 (.lst (kindsL i 12 ++ [V.bl (decide (i = 12))]))) p4 = some (.lst (kindsL i 13)) := upd_same
    generalize upd (upd G3 l4 (.lst [V.bl (decide (i = 12))])) p4 (.lst (kindsL i 12 ++ [V.bl (decide (i = 12))])) = G4 at *
    have hflat : (kindsL i 13).all flatV = true := rfl
    have key : ∀ i, i < 13 → (kindsL i 13).countP (eqV · (.bl true)) = 1 ∧ (kindsL i 13)[i]? = some (.bl true) ∧ (∀ m, m < i → (kindsL i 13)[m]? = some (.bl false)) ∧ whichL[i]? = some (whichL.getD i "") := by
      decide +kernel
    obtain ⟨q1, q2, q3, q4⟩ := key i hi
    have q3' : ∀ (m : Nat) (z' : V), m < i → (kindsL i 13)[m]? = some z' → eqV z' (.bl true) = false := fun m z' hm e => by
      rw [q3 m hm] at e
      cases e
      rfl
    -- kinds.count(True) != 1 or ..
    refine ⟨_, rfl, .inl ⟨rfl, _, SqL.of f4⟩, p4, _, _, rfl, rfl, SqL.of f4, rfl, hflat, rfl, _, rfl, ?_⟩
    rw [q1]
    refine iteF ⟨_, rfl, _, .ref _, _, decide (i < 11), rfl, c1, c2, hex, same_xd c3 z4, .own _, T.kitH i hi, _, rfl, .inl ⟨rfl, _, SqL.of f4⟩, p4, _, _, i, _, rfl, rfl, SqL.of f4, rfl, hflat, q2, rfl, q3', _, _, rfl, rfl, rfl, _, rfl, ?_⟩
    have e11 : (decide ((i : Int) < 11)) = decide (i < 11) := decide_eq_decide.mpr (by omega)
    refine iteNS (c := V.bl (decide (i < 11)) = V.bl (decide ((i : Int) < 11))) (by rw [e11]) ?_
    refine ⟨(by show 12 ≤ sizeLine; decide), fun p5 hp5 => ⟨_, rfl, (by show 1 ≤ sizeLine; decide), fun l6 hl6 => ⟨p5, l6, _, _, rfl, rfl, (Same.new hl6) _ _ upd_same, upd_same, (by show 13 ≤ sizeLine; decide), fun p6 hp6 => ?_⟩⟩⟩
    have s5 := ((Same.new (o := .lst [.str "number", .str "name", .str "row", .str "sort", .str "program", .str "text", .str "book", .str "hands", .str "step", .str "edit", .str "command", .str "many"]) hp5).trans (Same.new (o := .lst [.str "undo"]) hl6)).trans
      (Same.new (o := .lst ([.str "number", .str "name", .str "row", .str "sort", .str "program", .str "text", .str "book", .str "hands", .str "step", .str "edit", .str "command", .str "many"] ++ [.str "undo"])) hp6)
    have g4 := s5 _ _ f4
    have q4' : (([.str "number", .str "name", .str "row", .str "sort", .str "program", .str "text", .str "book", .str "hands", .str "step", .str "edit", .str "command", .str "many"] : List V) ++ [.str "undo"])[i]? = some (.str (whichL.getD i "")) := by
      have e : (([.str "number", .str "name", .str "row", .str "sort", .str "program", .str "text", .str "book", .str "hands", .str "step", .str "edit", .str "command", .str "many"] : List V) ++ [.str "undo"]) = whichL.map V.str := rfl
      rw [e, List.getElem?_map, q4]
      rfl
    refine ⟨_, rfl, .inl ⟨rfl, _, SqL.of g4⟩, p4, _, _, i, _, rfl, rfl, SqL.of g4, rfl, hflat, q2, rfl, q3', ?_⟩
    exact ⟨p6, _, (i : Int), _, rfl, rfl, SqL.of upd_same, atI_nat q4', k _ (z4.trans s5)⟩
theorem scCaught : FnScope ["call", "e"] ["call"] (defScope sCaught) := ⟨rfl, rfl, rfl, by decide +kernel, rfl, by decide +kernel, by decide +kernel⟩
end

/-- _law_which, by the error's class and dict alone -/
def spWh (K : PySem.W.Frag) (cs : List Addr) (a : Addr) (cls : Value) (d : Option Addr) : Sp := fun vs H Q _ => ∃ i : Nat, vs = [.ref a] ∧ i < 13 ∧ cls = .ref (cs.getD i 0) ∧
  (d = none ∨ ∃ dd fs, d = some dd ∧ H dd = some (.xd fs)) ∧ ∀ H', Same H H' → Q (.str (whichL.getD i "")) H'
theorem spWh_imp {K : PySem.W.Frag} {cs : List Addr} {a : Addr} {oe : Obj} {cls : Value} {d : Option Addr} (hz : Zc cls d oe) (hf : ∃ vs, oe.data = .fields vs) : ∀ vs H Q E, spWh K cs a cls d vs H Q E → spWhichP K cs (a, oe) vs H Q E := by
  rintro vs H Q E ⟨i, rfl, hi, hc, hd, k⟩
  refine ⟨i, rfl, hi, hz.1.trans hc, hf, ?_, k⟩
  have e : oe.dict = d := hz.2
  rcases hd with hd | ⟨dd, fs, hd, ed⟩
  · exact .inl (e.trans hd)
  · exact .inr ⟨dd, fs, e.trans hd, ed⟩
/-- e.f, e the error that is caught, of whatever own class -/
def tXfG (K : PySem.W.Frag) (a : Addr) (cls : Value) (d : Option Addr) (f : Str) (te : TE) : TE := fun σ H Q => te σ H fun x H1 => x = .ref a ∧ ∃ (C dd : Addr) (fs : List (Str × V)) (v : V), cls = .ref C ∧ XfC K C ∧ PySem.W.findIn K (.ref C) f = some none ∧
  d = some dd ∧ H1 dd = some (.xd fs) ∧ fs.lookup f = some v ∧ Q v H1
theorem pe_xfG {X : Cx} {a : Addr} {oe : Obj} {cls : Value} {d : Option Addr} {pn : List (Addr × Obj)} {e : Expr} {te : TE} {pos : Pos} {n : Str} (hz : Zc cls d oe) (hf : ∃ vs, oe.data = .fields vs) (he : PE (X.suite a ((a, oe) :: pn)) e te)
    (hb : attributeBase e n X.env (eval e X.env) = eval e X.env := by rfl) : PE (X.suite a ((a, oe) :: pn)) (.Attribute e n pos) (tXfG X.K a cls d n te) := by
  constructor
  intro pins s σ H Q I h
  refine attr_of hb (thn (he.run pins s σ H _ I h) fun u s1 hh => ?_)
  obtain ⟨x, H1, I1, rx, ex, C, dd, fs, v, ec, T, hno, ed, ea, l, q⟩ := hh
  subst ex
  obtain rfl : u = Value.ref a := rx
  subst ec
  subst ed
  have P1 := I1.pin (a, oe) (List.mem_append_left _ List.mem_cons_self)
  obtain ⟨vs, hd⟩ := hf
  have z : ObjOk X.prog X.w H1 s1.heap dd (.xd fs) := I1.hok dd _ ea
  obtain ⟨mA, hns, hr⟩ := z
  obtain ⟨od, ho, hl⟩ := lookIn_ns hns
  obtain ⟨w, hw, rw'⟩ := RelO.some_of (v := v) (o := mA n) (by rw [← l]; exact hr n)
  have J : PySem.W.InstAt s1.heap a oe C (some od) := ⟨P1.1, hz.1, by unfold PySem.W.notCls; rw [hd], by rw [hz.2]; exact ho⟩
  exact HandSPX.exc_get I1.kIn J T.ga T.gg T.exC (PySem.W.findObj_own T.hdC hno rfl (by rw [hl, hw])) (handed_of rw') ⟨v, H1, I1.tok _, rw', q⟩
abbrev rReprD (K : PySem.W.Frag) : List V → Hp → VK → Prop := fun xs H Q => ∃ v d, xs = [v] ∧ Rp K H v d ∧ okD d = true ∧ Q (.str d.shown) H
/-- what is wished of an error that the lambda raises -/
def ECt (K : PySem.W.Frag) (cs : List Addr) (Q : VK) : XK := fun cls d H' => ∃ (i : Nat) (dd : Addr) (v : V) (dv : PyData), i < 11 ∧ cls = .ref (cs.getD i 0) ∧ d = some dd ∧ H' dd = some (.xd [("value", v)]) ∧ Rp K H' v dv ∧ okD dv = true ∧
  ∀ H'' p, Same H' H'' → H'' p = some (.lst [.str (whichL.getD i ""), .str dv.shown]) → Q (.ref p) H''
/-- _law_caught of a lambda of the reading tl -/
def TTc (K : PySem.W.Frag) (cs : List Addr) (tl : XK → Hp → VK → Prop) : Hp → VK → Prop := fun H Q => ∀ E : XK, (∀ cls d H', ECt K cs Q cls d H' → E cls d H') → tl E H (fun _ H' => Q .non H')
/-- the slots are as many as the names -/
theorem pss_len {X : Cx} {st : List Stmt} {t : TS} (n : Nat) (hn : X.N.length = n) (h : PSs X st t) : PSs X st (fun D σ H => σ.length = n → t D σ H) :=
  ⟨fun pins s σ H D I hq => h.run pins s σ H D I (hq (I.len.trans hn))⟩
section
variable {Z : Cx} {cH fW a : Addr} {fdW : FuncData} {cs : List Addr} {oe : Obj} {cls : Value} {d : Option Addr} {pn : List (Addr × Obj)} {i : Nat}
theorem pe_whichC {p1 p2 p3 : Pos} (GW : FnP Z.prog Z.w Z.K Z.mg Z.base 1 fW fdW ["error"] (spWhichP Z.K cs)) (hr : L2H.RoomH 1 Z.A) (hz : Zc cls d oe) (hf : ∃ vs, oe.data = .fields vs) (hgl : Gl Z "_law_which") (gW : Z.mg "_law_which" = some (.ref fW))
    (hk : PySem.W.keepIn Z.K (.ref fW) = true) (bW : L2.Binds Z.K fdW ["error"] []) (hN : Z.N[i]? = some "e") (hv : Vis Z.env.scope "e") :
    PE (Z.suite a ((a, oe) :: pn)) (.Call (.Name "_law_which" p1) [.Name "e" p2] [] p3) (fun σ H Q => tCons (tVar i) tNil σ H fun vs H1 => spWh Z.K cs a cls d vs H1 Q E0) :=
  pe_callP (X := Z.suite a ((a, oe) :: pn)) (p := (a, oe)) (spr := spWh Z.K cs a cls d) (spWh_imp hz hf) GW ⟨hr.dp, hr.un⟩ (List.mem_cons_self ..) hgl gW hk bW (pa_cons (pv i hN hv) pa_nil)
theorem pe_reprC {p1 p2 p3 p4 : Pos} {f : Str} (hg : Z.A.guards = some []) (hu : Z.A.units + 64 < cLine) (hz : Zc cls d oe) (hf : ∃ vs, oe.data = .fields vs) (hgl : Gl Z "repr") (hm : Z.mg "repr" = none) (hN : Z.N[i]? = some "e") (hv : Vis Z.env.scope "e")
    (hb : attributeBase (.Name "e" p2) f Z.env (eval (.Name "e" p2) Z.env) = eval (.Name "e" p2) Z.env) :
    PE (Z.suite a ((a, oe) :: pn)) (.Call (.Name "repr" p1) [.Attribute (.Name "e" p2) f p3] [] p4) (tCB (rReprD Z.K) (tCons (tXfG Z.K a cls d f (tVar i)) tNil)) :=
  pe_callB (X := Z.suite a ((a, oe) :: pn)) (id := "repr") (r := rReprD Z.K) (call_reprD (X := Z.suite a ((a, oe) :: pn)) hg hu) hgl hm (by decide +kernel) (pa_cons (pe_xfG (X := Z) hz hf (pv i hN hv) hb) pa_nil)
end
section
variable {X : Cx} {cH : Addr} {cs : List Addr}
theorem gives_caught {g fW : Addr} {cdg : Value} {fdW : FuncData} {q : Str} (T : HTxt X.K X.mg cH cs) (FW : Fun X.K "_law_which" "_law_which" sWhich fW fdW) (bW : L2.Binds X.K fdW ["error"] []) (gW : X.mg "_law_which" = some (.ref fW)) (hg : X.A.guards = some [])
    (hr : Room 8 X.A) : LamX.GivesTo X ["call", "e"] "_law_caught" (defScope sCaught) g cdg (defBody sCaught) "call" q (TTc X.K cs) := by
  intro f c' s H Q tl hc hcc hTT
  have GW : FnP X.prog X.w X.K X.mg X.base 1 fW fdW ["error"] (spWhichP X.K cs) := ok_whichP FW T
  have hrH : ∀ env : Env, L2H.RoomH 1 (X.A.deeper env) := fun env => (L2H.roomH_of (hr.deeper env)).mono (by decide)
  have hu : ∀ env : Env, (X.A.deeper env).units + 64 < cLine := fun env => (hr.deeper env).units
  let Z : Cx := (cxOf C8.CX0 X.prog X.w X.K X.mg X.base ["call", "e"] "_law_caught" (defScope sCaught) g cdg X.A X.stack s H C8.E0).nox
  refine ⟨_, pss_cons (X := Z) (ps_try_manyA (X := Z) rfl rfl scCaught.nd takes_none5 (fun W pn xe tk _ => pss_one (ps_expr (hc W pn xe (fun cls d H' => ∀ σ', W cls d σ' H') _ _ tk (fun cls d σ' H' h => h σ'))))
      (.cons (i := 1) ⟨by rfl, by decide, .inl T.gH⟩ rfl rfl (fun a oe cls d pn hz hf => pss_len 2 rfl (pss_one (ps_ret (pe_lst (pa_cons (pe_whichC (Z := Z) (i := 1) (a := a) (pn := pn) GW (hrH _) hz hf (by rfl) gW FW.kp bW rfl (.inl rfl))
          (pa_cons (pe_reprC (Z := Z) (i := 1) (a := a) (pn := pn) hg (hu _) hz hf (by rfl) T.reprN rfl (.inl rfl) rfl) pa_nil))))))
      (.cons (i := 1) ⟨by rfl, by decide, .inl T.g11⟩ rfl rfl (fun a oe cls d pn hz hf => pss_len 2 rfl (pss_one (ps_ret (pe_lst (pa_cons (pe_whichC (Z := Z) (i := 1) (a := a) (pn := pn) GW (hrH _) hz hf (by rfl) gW FW.kp bW rfl (.inl rfl))
          (pa_cons (pe_reprC (Z := Z) (i := 1) (a := a) (pn := pn) hg (hu _) hz hf (by rfl) T.reprN rfl (.inl rfl) rfl) pa_nil))))))
      (.cons (i := 1) ⟨by rfl, by decide, .inl T.g12⟩ rfl rfl (fun a oe cls d pn hz hf => pss_len 2 rfl (pss_one (ps_ret (pe_lst (pa_cons (pe_whichC (Z := Z) (i := 1) (a := a) (pn := pn) GW (hrH _) hz hf (by rfl) gW FW.kp bW rfl (.inl rfl))
          (pa_cons (pe_str (x := Str.ofString "")) pa_nil))))))
      .nil)))) (pss_one (ps_ret pe_non)), ?_⟩
  refine ⟨rfl, hcc, hTT _ fun cls d H' hE σ' => ?_⟩
  obtain ⟨i, dd, v, dv, hi, rfl, rfl, ed, hv, ho, k⟩ := hE
  refine ⟨true, (T.exmH i (by omega)).trans (by rw [decide_eq_true hi]), fun _ a na hlen => ?_, fun q => nomatch q⟩
  have h1 : (σ'.set 1 (some (V.ref a)))[1]? = some (some (V.ref a)) := by
    have : (σ'.set 1 (some (V.ref a))).length = 2 := hlen
    rw [List.length_set] at this
    exact List.getElem?_set_self (by omega)
  refine ⟨_, h1, i, rfl, by omega, rfl, .inr ⟨dd, _, rfl, ed⟩, fun H2 s2 => ?_⟩
  have hv2 : Rp X.K H2 v dv := rp_same hv s2
  refine ⟨_, h1, rfl, cs.getD i 0, dd, _, v, rfl, T.xf i (by omega), T.noV i hi, rfl, s2 _ _ ed, (by simp), v, dv, rfl, hv2, ho, (by show 2 ≤ sizeLine; decide), fun p hp => ?_⟩
  exact k _ p (s2.trans (Same.new hp)) upd_same
end
/-! ### the end of a law: no repr under way, tables of lambdas -/
section
open LamX
/-- the law's own call, tables of code at hand -/
theorem lawGT {cs : List (Addr × Addr)} {CX : CXT} {P : Program} {w : World} {K : PySem.W.Frag} {mg mb : Str → Option Value} {k : Nat} {fa a : Addr} {fd : FuncData} {sp : Sp} {s₁ : Shared} {vs : List Value} {ns : List Int} (dcx : ∀ D e s', CX [] D s₁ (fun _ _ _ => False) e s' → False) (tz : ∀ p ∈ cs, s₁.heap.get? p.2 = some { cls := .none, data := .fields #[] }) (tn : ∀ p ∈ cs, K.lookup p.2 = none) (th : ∀ p ∈ cs, PySem.W.CodeHd s₁.heap p.1 p.2)
    (bmn : ∃ (c : Addr) (y : Obj), mg "__builtins__" = some (.ref c) ∧ c ≠ builtinsNs ∧ s₁.heap.get? c = some y ∧ y.cls = .type "module" ∧ y.dict = some builtinsNs ∧ y.data = .plain) (KX : K.In s₁.heap) (hns : s₁.heap.Ns mainGlobals mg)
    (hb : s₁.heap.Ns builtinsNs mb) (hbb : ∀ x : Str, x ≠ "__name__" → mb x = bootBuiltins x) (hlim : s₁.heap.NoLimit) (hg : s₁.gens = #[])
    (ha : s₁.heap.get? a = some { cls := .type "list", data := .seq vs.toArray }) (hi : PyProof.Rows.IntsAre vs ns) (hl : ns.length ≤ sizeLine) (hr : Room k callerA)
    (F : ∀ base : Heap, K.In base → base.Ns mainGlobals mg → (∀ p ∈ cs, TabB base mg p.1 p.2) → FnG P w K mg base CX k fa fd ["script"] sp) (bind : ∀ (s : Shared) (u : Value), BindsTo s fd ⟨[u], []⟩ [("script", u)])
    (hsp : ∀ H : Hp, (∀ p ∈ cs, H p.2 = some (.tbl #[])) → SqL K H a (ns.map V.int) → sp [.ref a] H (fun v _ => v = .bl true) fun _ _ _ => False) :
    codeAny (model P w) callerA (.call (.ref fa) ⟨[.ref a], []⟩) (fun r s' => r = .ok (.ret (.bool true)) ∧ PySem.OldK s₁.heap s'.heap ∧ s'.os = s₁.os ∧ AllBare s'.gens) s₁ := by
  have rv := vals_ints hi
  have lenV := hi.length
  -- the abstract heap: nothing, or the script, locked
  have go : ∀ H : Hp, (∀ b o, H b = some o → ((∃ p ∈ cs, b = p.2) ∧ o = .tbl #[]) ∨ (b = a ∧ K.lookup a = none ∧ o = .frz { cls := .type "list", data := .seq vs.toArray } (.lst (ns.map V.int)))) → (∀ p ∈ cs, H p.2 = some (.tbl #[])) → SqL K H a (ns.map V.int) →
      codeAny (model P w) callerA (.call (.ref fa) ⟨[.ref a], []⟩) (fun r s' => r = .ok (.ret (.bool true)) ∧ PySem.OldK s₁.heap s'.heap ∧ s'.os = s₁.os ∧ AllBare s'.gens) s₁ := by
    intro H hA hC hS
    have hok : HOk P w H s₁.heap := fun b o q => by
      rcases hA b o q with ⟨⟨p, hp, rfl⟩, rfl⟩ | ⟨rfl, _, rfl⟩
      · exact tz p hp
      exact ⟨ha, by rw [List.length_map]; exact hl, vs, _, rv, ha⟩
    have low : ∀ {b : Addr} {o : Obj}, s₁.heap.get? b = some o → H b = none → (hidT s₁.heap H).get? b = some o := fun e n => hidT_get e n
    have free : ∀ {b : Addr} {o : Obj}, s₁.heap.get? b = some o → (∀ its n, o.data ≠ .seq its n) → o.data ≠ .fields #[] → H b = none := fun {b o} e d d2 => by
      cases q : H b with
      | none => rfl
      | some u =>
        rcases hA b u q with ⟨⟨p, hp, rfl⟩, _⟩ | ⟨rfl, _⟩
        · rw [tz p hp] at e
          cases e
          exact absurd rfl d2
        · rw [ha] at e
          cases e
          exact absurd rfl (d _ _)
    have nsT : ∀ {b : Addr} {m : Str → Option Value}, s₁.heap.Ns b m → (hidT s₁.heap H).Ns b m := fun {b m} z => by
      obtain ⟨o, es, ep, e, d, r⟩ := z
      exact ⟨o, es, ep, low e (free e (fun its n y => by rw [d] at y; cases y) fun y => by rw [d] at y; cases y), d, r⟩
    have kT : K.In (hidT s₁.heap H) := fun b o e => by
      refine low (KX b o e) ?_
      cases q : H b with
      | none => rfl
      | some u =>
        rcases hA b u q with ⟨⟨p, hp, rfl⟩, _⟩ | ⟨rfl, z, _⟩
        · rw [tn p hp] at e
          cases e
        · rw [z] at e
          cases e
    have hM : Mod K mg (hidT s₁.heap H) := by
      obtain ⟨mc, h1, h2⟩ := hlim
      exact ⟨kT, nsT hns, ⟨mb, nsT hb, hbb⟩, ⟨mc, nsT h1, h2⟩⟩
    have hT : ∀ p ∈ cs, TabB (hidT s₁.heap H) mg p.1 p.2 := fun p hp => by
      have tp := tz p hp
      refine ⟨?_, ?_, fun z => ?_⟩
      · obtain ⟨y, q1, q2, q3, q4, q5, q6, q7, q8, g, c1, c2, c3, c4, c5, c6, c7, c8, c9⟩ := th p hp
        exact ⟨y, q1, q2, q3, q4, q5, q6, q7, q8, low g (free g (fun its n z => by rw [c2] at z; cases z) fun z => by rw [c2] at z; cases z; simp at c3), c1, c2, c3, c4, c5, c6, c7, c8, c9⟩
      · obtain ⟨c, y, g1, g2, g3, g4, g5, g6⟩ := bmn
        refine ⟨c, y, g1, g2, fun z => ?_, fun z => ?_, low g3 (free g3 (fun its n z => by rw [g6] at z; cases z) fun z => by rw [g6] at z; cases z), g4, g5, g6⟩
        · obtain ⟨_, _, _, ge, gd, _⟩ := hns
          rw [z, ge] at g3
          cases g3
          rw [gd] at g6
          cases g6
        · rw [z, tp] at g3
          cases g3
          cases g6
      · obtain ⟨_, _, _, ge, gd, _⟩ := hns
        rw [z, tp] at ge
        cases ge
        cases gd
    have e0 : Env0 P w K mg (hidT s₁.heap H) callerA [] s₁ H :=
      ⟨rfl, hM, fun b o e => of_hidT e, Nat.le_of_eq (hidT_size _ _), trivial, fun b hb => (nomatch hb), hok, .of_eq hg⟩
    have run := (F _ kT (nsT hns) hT).run callerA [] s₁ H ⟨[.ref a], []⟩ [.ref a] [.ref a] _ _ rfl hr e0 (bind s₁ (.ref a)) (.cons rfl .nil) (hsp H hC hS)
    refine codeAny_mono run fun r s' h => ?_
    cases r with
    | error e => exact (dcx H e s' h).elim
    | ok fl =>
      cases fl with
      | next => exact False.elim h
      | brk => exact False.elim h
      | cont => exact False.elim h
      | ret u =>
        obtain ⟨v, H', os, bare, un, hok', r', q⟩ := h
        obtain rfl : v = .bl true := q
        obtain rfl : u = Value.bool true := r'
        have kept : ∀ b o, (∀ p ∈ cs, b ≠ p.2) → s₁.heap.get? b = some o → s'.heap.get? b = some o := fun b o nb e => by
          cases q : H b with
          | none => exact un.keep b o e q (fun z => nomatch z) (fun z => nomatch z)
          | some u =>
            rcases hA b u q with ⟨⟨p, hp, rfl⟩, _⟩ | ⟨rfl, _, rfl⟩
            · exact absurd rfl (nb p hp)
            have z := un.frzs b _ _ q
            rw [ha] at e
            cases e
            exact (hok' b _ z).1
        have more : ∀ p ∈ cs, ∃ ys : Array Value, s'.heap.get? p.2 = some { cls := .none, data := .fields ys } := fun p hp => by
          obtain ⟨ys, z⟩ := un.tbls _ _ (hC p hp)
          exact ⟨_, hok' _ _ z⟩
        have split : ∀ b : Addr, (∃ p ∈ cs, b = p.2) ∨ ∀ p ∈ cs, b ≠ p.2 := fun b => by
          by_cases z : ∃ p ∈ cs, b = p.2
          · exact .inl z
          · exact .inr fun p hp e => z ⟨p, hp, e⟩
        refine ⟨rfl, ⟨fun b o e => ?_, fun b o e => ?_⟩, os, bare⟩
        · rcases split b with ⟨p, hp, rfl⟩ | nb
          · obtain ⟨ys, hys⟩ := more p hp
            rw [tz p hp] at e
            cases e
            exact .inr (.inl ⟨((th p hp).tab (tz p hp)).isCodeTable, rfl, #[], ys, rfl, by rw [hys, Array.empty_append]⟩)
          · exact .inl (kept b o nb e)
        · rcases split b with ⟨p, hp, rfl⟩ | nb
          · obtain ⟨ys, hys⟩ := more p hp
            exact ⟨_, hys⟩
          · exact ⟨o, kept b o nb e⟩
  have aT : ¬ ∃ p ∈ cs, a = p.2 := fun ⟨p, hp, e⟩ => by
    have q := tz p hp
    rw [← e, ha] at q
    cases q
  cases hk : K.lookup a with
  | some o =>
    have e := KX a o hk
    rw [ha] at e
    cases e
    refine go (fun b => open Classical in if ∃ p ∈ cs, b = p.2 then some (.tbl #[]) else none) (fun b o z => ?_) (fun p hp => if_pos ⟨p, hp, rfl⟩) (.inr ⟨_, vs.toArray, _, hk, rfl, rfl, rfl, ?_, by simpa using rv⟩)
    · by_cases hb : ∃ p ∈ cs, b = p.2
      · exact .inl ⟨hb, by have q := (if_pos hb).symm.trans z; cases q; rfl⟩
      · have q := (if_neg hb).symm.trans z
        cases q
    · rw [List.size_toArray, lenV]
      exact hl
  | none =>
    refine go (fun b => open Classical in if ∃ p ∈ cs, b = p.2 then some (.tbl #[]) else if b = a then some (.frz { cls := .type "list", data := .seq vs.toArray } (.lst (ns.map V.int))) else none) (fun b o z => ?_) (fun p hp => if_pos ⟨p, hp, rfl⟩)
      (.inl (.inr ⟨_, (if_neg aT).trans (if_pos rfl)⟩))
    by_cases hb : ∃ p ∈ cs, b = p.2
    · exact .inl ⟨hb, by have q := (if_pos hb).symm.trans z; cases q; rfl⟩
    · have q := (if_neg hb).symm.trans z
      by_cases hb2 : b = a
      · exact .inr ⟨hb2, hk, (Option.some.inj ((if_pos hb2).symm.trans q)).symm⟩
      · have q2 := (if_neg hb2).symm.trans q
        cases q2
theorem walkGT {CX : World → CXT} {l : PySem.W.OpenLaw} {k : Nat} {q : Program} {loose : List Str} {XP : (Str → Option Value) → Heap → Prop} {YP : World → Heap → Prop} {d : DefRec} {K : Params → PySem.W.Frag} (hn : l.most = some 63) (hdf : d.params.defaults = [])
    (hr : Room k callerA) (hY : ∀ (w : World) (h : Heap), YP w h → (K w.params).In h)
    (dcx : ∀ (w : World) D s e s', CX w [] D s (fun _ _ _ => False) e s' → False)
    (F : ∀ (w : World) (mg : Str → Option Value) (fa : Addr) (h : Heap), YP w h → (K w.params).In h → h.Ns mainGlobals mg → mg d.name = some (.ref fa) →
      ∃ (fd : FuncData) (cs : List (Addr × Addr)) (sp : Sp), (∀ p ∈ cs, h.get? p.2 = some { cls := .none, data := .fields #[] } ∧ (K w.params).lookup p.2 = none ∧ PySem.W.CodeHd h p.1 p.2) ∧
        (∀ (H : Hp) (a : Addr) (ns : List Int), ns.length ≤ 63 → (∀ z ∈ ns, Builtin.Int.intBits z ≤ 1048576) → (∀ p ∈ cs, H p.2 = some (.tbl #[])) → SqL (K w.params) H a (ns.map V.int) → sp [.ref a] H (fun v _ => v = .bl true) fun _ _ _ => False) ∧
        (∀ (s : Shared) (u : Value), BindsTo s fd ⟨[u], []⟩ [("script", u)]) ∧
        ∀ base : Heap, (K w.params).In base → base.Ns mainGlobals mg → (∀ p ∈ cs, TabB base mg p.1 p.2) → FnG l.prog w (K w.params) mg base (CX w) k fa fd ["script"] sp) :
    PySem.W.WalkO q loose XP YP l.row.toRowW d [] (fun f vs => PySem.call f vs) := by
  refine Att.attach_callB hn hdf fun w s₀ s₁ mg mb fa o pm cd doc a vs ns G Y ho hd hcd hmg hobj hints hlen hbits hg => ?_
  have KX := hY w _ Y
  obtain ⟨fd, cs, sp, hcs, hsp, hb, hF⟩ := F w mg fa _ Y KX G.T.g hmg
  exact lawGT (fun D e s' => dcx w D s₁ e s') (fun p hp => (hcs p hp).1) (fun p hp => (hcs p hp).2.1) (fun p hp => (hcs p hp).2.2) G.T.bmain KX G.T.g G.T.b G.T.builtins G.T.nolimit hg hobj hints (Nat.le_trans hlen (by decide)) hr hF hb
    fun H hC hS => hsp H a ns hlen hbits hC hS
end
/-! ### sets of texts -/
section
open PySem PySem.Spec PyProof.Rows
/-- how many unlike texts stand among the first i -/
def cntS (xs : List Str) : Nat → Nat
  | 0 => 0
  | i + 1 => if (xs.take i).any (· == xs.getD i Str.empty) = true then cntS xs i else cntS xs i + 1
theorem cntS_le (xs : List Str) : ∀ i, cntS xs i ≤ i
  | 0 => Nat.le_refl _
  | i + 1 => by
    have h := cntS_le xs i
    unfold cntS
    split <;> omega
abbrev firstS (xs : List Str) (i : Nat) : Str → Bool := fun y => (xs.take i).any (· == y)
abbrev bareS (led : Bool) : Obj := { cls := .type "set", dict := none, data := .set #[] 0 (.fresh 0 0 led) }
theorem firstS_step {xs : List Str} {i : Nat} (h : i < xs.length) (y : Str) : (firstS xs i y || decide (y = xs.getD i Str.empty)) = firstS xs (i + 1) y := by
  have e : xs.take (i + 1) = xs.take i ++ [xs.getD i Str.empty] := by
    rw [List.take_add_one, List.getElem?_eq_getElem h, List.getD_eq_getElem?_getD, List.getElem?_eq_getElem h]
    rfl
  show _ = (xs.take (i + 1)).any (· == y)
  rw [e, List.any_append]
  refine congrArg _ ?_
  show _ = ((xs.getD i Str.empty == y) || false)
  rw [Bool.or_false]
  by_cases q : y = xs.getD i Str.empty
  · rw [decide_eq_true q, q]
    exact (beq_self_eq_true _).symm
  · rw [decide_eq_false q]
    exact (beq_eq_false_iff_ne.mpr fun z => q z.symm).symm
section
variable {prog : Program} {w : World} {A : Around} {R : Result → Shared → Prop} {I : Addr} {fp wr : List Addr} {G : Array GenState → Array GenState → Prop} {n : Nat} {P : Nat → Value → Prop} {St : Nat → Shared → Prop}
theorem textsIn (W : WalksS prog w A.in1 I fp wr G n P St) (S : Addr) (no : S ∉ fp) (xs : List Str) (len : xs.length = n) (hb : n + 1 < scanBound)
    (tx : ∀ i v, P i v → ∃ t, v = .str (xs.getD i Str.empty) t) : ∀ (left i : Nat) (s : Shared), n - i = left → i ≤ n → St i s →
      s.heap.SetOf (strKind prog w) S (firstS xs i) (cntS xs i) →
      (∀ z, Moved (S :: wr) G s z → z.heap.SetOf (strKind prog w) S (firstS xs n) (cntS xs n) → R (.ok (.ret .none)) z) →
      codeAny (model prog w) A (.builtin "set.update.loop" ⟨[.ref S, .ref I], []⟩) R s
  | 0, i, s, hk, hi, hst, hS, hR => by
    obtain rfl : i = n := by omega
    refine codeAny_builtin F.entry_set_update_loop ?_
    rw [Around.under_plainId F.plain_set_update_loop _]
    show wpAny _ A.in1 (pyNext (.ref I) >>= _) _ _ s
    refine wpAny_bind (W.done s _ _ hst fun z mv => ?_)
    obtain ⟨o, es, ep, t, ho, more⟩ := hS
    exact wpAny_pure (hR z (mv.mono fun b => List.mem_cons_of_mem _) ⟨o, es, ep, t, mv.heap S _ (fun q => no (W.sub _ q)) ho, more⟩)
  | left + 1, i, s, hk, hi, hst, hS, hR => by
    have lt : i < n := by omega
    refine codeAny_builtin F.entry_set_update_loop ?_
    rw [Around.under_plainId F.plain_set_update_loop _]
    show wpAny _ A.in1 (pyNext (.ref I) >>= _) _ _ s
    refine wpAny_bind (W.item i s _ _ lt hst fun v z hv hst2 mv => ?_)
    obtain ⟨t, rfl⟩ := tx i v hv
    have hS1 : z.heap.SetOf (strKind prog w) S (firstS xs i) (cntS xs i) := by
      obtain ⟨o, es, ep, tb, ho, more⟩ := hS
      exact ⟨o, es, ep, tb, mv.heap S _ (fun q => no (W.sub _ q)) ho, more⟩
    refine wpAny_bind (wpAny_holding ?_)
    unfold setAdd
    refine wpAny_holding (wpAny_bind ((strKind prog w).pyHash (k := xs.getD i Str.empty) (strKind_is _ _ _ _) ?_))
    have le := cntS_le xs i
    refine wpAny_setAddHashed_of (knd := strKind prog w) (s := { z with toks := z.toks + 1 }) (strKind_is _ _ _ _) rfl hS1 (by omega) fun h2 sb hS2 => ?_
    have hS3 : h2.SetOf (strKind prog w) S (firstS xs (i + 1)) (cntS xs (i + 1)) := SetOf_congr hS2 (fun y => firstS_step (by omega) y) rfl
    refine wpAny_pure ⟨plainId_quiet F.plain_set_update_loop _, textsIn W S no xs len hb tx left (i + 1) _ (by omega) lt (W.frame _ z _ _ hst2 (Nat.le_succ _) fun b q o e => ?_) hS3 fun z2 mv2 hS4 => ?_⟩
    · exact (sb.2 b fun q2 => no (q2 ▸ q)).trans e
    · refine hR z2 (Moved.trans W.gtrans ((mv.mono fun b => List.mem_cons_of_mem _).then_heap (Nat.le_succ _) fun b o q e => ?_) mv2) hS4
      exact (sb.2 b fun q2 => q (q2 ▸ List.mem_cons_self)).trans e
end
section
variable {prog : Program} {w : World} {A : Around} {E : Value → Shared → Prop} {s : Shared}
set_option maxHeartbeats 3200000 in
theorem setOf_list {l : Addr} {items : Array Value} {xs : List Str} {Q : Value → Shared → Prop} (hot : A.handled = none) (src : s.heap.IsList l items) (tx : StrsAre items.toList xs) (few : xs.length + 1 < scanBound)
    (go : ∀ (h2 : Heap) (t2 : Nat), h2.SetOf (strKind prog w) s.heap.objs.size (firstS xs items.size) (cntS xs items.size) → (∀ b o, b < s.heap.objs.size → s.heap.get? b = some o → h2.get? b = some o) →
      Q (.ref s.heap.objs.size) { s with heap := h2, toks := t2 }) : wpAny (model prog w) A (call (.type "set") [.ref l]) Q E s := by
  obtain ⟨c, tl, mro⟩ := F.called_set.mro
  have f1 := F.called_set.made
  have f2 := F.called_set.sub
  have f3 := F.called_set.notType
  have f4 := F.called_set.canCreate
  have f5 := F.typeCall_set_1 (.ref l)
  refine wpAny_call (codeAny_of_tree ?_)
  show wpAny _ _ (callAny (.type "set") _) _ _ _
  refine wpAny_pure ⟨Code.quiet_builtin _ (by decide +kernel), codeAny_builtin F.entry_type_call ?_⟩
  rw [Around.under_plain (weight_type_call_type "set" [.ref l] []) rfl]
  repeat (any_goals (first | assumption | wp_step))
  refine codeAny_mono (code_set_new_1 (.ref l) (E := E) (Q₁ := fun u z => ∃ led : Bool, u = .ref s.heap.objs.size ∧ z = { s with heap := s.heap.push (bareS led) }) fun led => ⟨led, rfl, rfl⟩) fun r z hr => ?_
  rcases r with e | fl
  · exact hr
  cases fl <;> try exact hr.elim
  obtain ⟨led, rfl, rfl⟩ := hr
  have new : (s.heap.push (bareS led)).get? s.heap.objs.size = some (bareS led) := Heap.get?_push_size _ rfl
  have isS : Shared.TypeIs { s with heap := s.heap.push (bareS led) } (.ref s.heap.objs.size) "set" := ⟨_, new, rfl⟩
  have f6 := F.called_set.init.lookup
  have f7 := F.called_set.init.bind (.ref s.heap.objs.size)
  repeat (any_goals (first | assumption | wp_step))
  refine codeAny_mono (codeAny_call_builtin (R := wants (fun r z => r = .none ∧ ∃ h2 t2, z = { s with heap := h2, toks := t2 } ∧ h2.SetOf (strKind prog w) s.heap.objs.size (firstS xs items.size) (cntS xs items.size) ∧
    ∀ b o, b < s.heap.objs.size → s.heap.get? b = some o → h2.get? b = some o) E) F.called_set.init.plain F.entry_set_init (check_set_init_1 isS ?_)) fun r2 z2 hr2 => ?_
  · obtain ⟨⟨oc, od, dt, sl⟩, at0, tc, nl, td⟩ := src
    simp only at tc td
    subst tc td
    have at1 : (s.heap.push (bareS led)).get? l = some ⟨.type "list", od, .seq items nl, sl⟩ := Heap.get?_push_of_some _ at0
    have src1 : (s.heap.push (bareS led)).IsList l items := ⟨_, at1, rfl, nl, rfl⟩
    have g1 := F.sub_list_set
    have g2 := F.sub_list_frozenset
    have g3 : (Value.type "list" == Value.type "dict") = false := by decide
    have low : l < s.heap.objs.size := Heap.lt_size at0
    unfold Builtin.«set.__init__» noKeywords Builtin.Frozenset.updateFrom
    generalize hz : pyIter = it
    wp_walk
    subst hz
    refine wpAny_pyIter_list src1 (wpAny_bind (wpAny_runValue ?_))
    have hot3 : A.in1.in1.in1.handled = none := hot
    have n1 : l ≠ (s.heap.push (bareS led)).objs.size := by
      rw [Heap.size_push]
      exact Nat.ne_of_lt (Nat.lt_succ_of_lt low)
    have n2 : s.heap.objs.size ∉ [(s.heap.push (bareS led)).objs.size, l] := fun q => by
      rw [Heap.size_push, List.mem_cons, List.mem_singleton] at q
      rcases q with q | q
      · exact Nat.ne_of_lt (Nat.lt_succ_self _) q
      · exact Nat.ne_of_gt low q
    have len : xs.length = items.size := by rw [← StrsAre.len_eq tx, Array.length_toList]
    refine textsIn ((Walks.list hot3 _ l n1 items).toS) _ n2 xs len (by omega) (fun i v hv => SS.strs_at tx i v (by rw [Array.getElem?_toList]; exact hv)) (items.size - 0) 0 _ rfl (Nat.zero_le _)
      ⟨⟨_, Heap.get?_push_size _ rfl, rfl, rfl⟩, src1.push _⟩ ?_ fun z mv hS => ?_
    · exact SetOf_congr ((setObjOf_fresh (knd := strKind prog w) led).setOf (Heap.get?_push_of_some _ new) (by omega)) (fun _ => rfl) rfl
    · obtain ⟨h2, g, d, t2, os⟩ := z
      obtain rfl : g = s.gens := mv.gens
      obtain rfl : d = s.drawn := mv.drawn
      obtain rfl : os = s.os := mv.os
      refine wpAny_pure ?_
      show wpAny _ _ (ret Value.none) _ _ _
      refine wpAny_pure ⟨rfl, h2, t2, rfl, hS, fun b o lt e => mv.heap b o (fun q => ?_) (Heap.get?_push_of_some _ (Heap.get?_push_of_some _ e))⟩
      rw [Heap.size_push, List.mem_cons, List.mem_singleton] at q
      rcases q with q | q
      · exact Nat.ne_of_lt lt q
      · exact Nat.ne_of_lt (Nat.lt_succ_of_lt lt) q
  · rcases r2 with e | fl2
    · exact hr2
    cases fl2 <;> try exact hr2.elim
    obtain ⟨rfl, h2, t2, rfl, hS, old⟩ := hr2
    repeat (any_goals (first | assumption | wp_step))
    exact go _ _ hS old
set_option maxHeartbeats 3200000 in
theorem setOf_tuple {l : Addr} {items : Array Value} {xs : List Str} {Q : Value → Shared → Prop} (hot : A.handled = none) (src : s.heap.IsTuple l items) (tx : StrsAre items.toList xs) (few : xs.length + 1 < scanBound)
    (go : ∀ (h2 : Heap) (t2 : Nat), h2.SetOf (strKind prog w) s.heap.objs.size (firstS xs items.size) (cntS xs items.size) → (∀ b o, b < s.heap.objs.size → s.heap.get? b = some o → h2.get? b = some o) →
      Q (.ref s.heap.objs.size) { s with heap := h2, toks := t2 }) : wpAny (model prog w) A (call (.type "set") [.ref l]) Q E s := by
  obtain ⟨c, tl, mro⟩ := F.called_set.mro
  have f1 := F.called_set.made
  have f2 := F.called_set.sub
  have f3 := F.called_set.notType
  have f4 := F.called_set.canCreate
  have f5 := F.typeCall_set_1 (.ref l)
  refine wpAny_call (codeAny_of_tree ?_)
  show wpAny _ _ (callAny (.type "set") _) _ _ _
  refine wpAny_pure ⟨Code.quiet_builtin _ (by decide +kernel), codeAny_builtin F.entry_type_call ?_⟩
  rw [Around.under_plain (weight_type_call_type "set" [.ref l] []) rfl]
  repeat (any_goals (first | assumption | wp_step))
  refine codeAny_mono (code_set_new_1 (.ref l) (E := E) (Q₁ := fun u z => ∃ led : Bool, u = .ref s.heap.objs.size ∧ z = { s with heap := s.heap.push (bareS led) }) fun led => ⟨led, rfl, rfl⟩) fun r z hr => ?_
  rcases r with e | fl
  · exact hr
  cases fl <;> try exact hr.elim
  obtain ⟨led, rfl, rfl⟩ := hr
  have new : (s.heap.push (bareS led)).get? s.heap.objs.size = some (bareS led) := Heap.get?_push_size _ rfl
  have isS : Shared.TypeIs { s with heap := s.heap.push (bareS led) } (.ref s.heap.objs.size) "set" := ⟨_, new, rfl⟩
  have f6 := F.called_set.init.lookup
  have f7 := F.called_set.init.bind (.ref s.heap.objs.size)
  repeat (any_goals (first | assumption | wp_step))
  refine codeAny_mono (codeAny_call_builtin (R := wants (fun r z => r = .none ∧ ∃ h2 t2, z = { s with heap := h2, toks := t2 } ∧ h2.SetOf (strKind prog w) s.heap.objs.size (firstS xs items.size) (cntS xs items.size) ∧
    ∀ b o, b < s.heap.objs.size → s.heap.get? b = some o → h2.get? b = some o) E) F.called_set.init.plain F.entry_set_init (check_set_init_1 isS ?_)) fun r2 z2 hr2 => ?_
  · obtain ⟨⟨oc, od, dt, sl⟩, at0, tc, nl, td⟩ := src
    simp only at tc td
    subst tc td
    have at1 : (s.heap.push (bareS led)).get? l = some ⟨.type "tuple", od, .seq items nl, sl⟩ := Heap.get?_push_of_some _ at0
    have src1 : (s.heap.push (bareS led)).IsTuple l items := ⟨_, at1, rfl, nl, rfl⟩
    have g1 := F.sub_tuple_set
    have g2 := F.sub_tuple_frozenset
    have g3 : (Value.type "tuple" == Value.type "dict") = false := by decide
    have low : l < s.heap.objs.size := Heap.lt_size at0
    unfold Builtin.«set.__init__» noKeywords Builtin.Frozenset.updateFrom
    generalize hz : pyIter = it
    wp_walk
    subst hz
    refine wpAny_pyIter_tuple src1 (wpAny_bind (wpAny_runValue ?_))
    have hot3 : A.in1.in1.in1.handled = none := hot
    have n1 : l ≠ (s.heap.push (bareS led)).objs.size := by
      rw [Heap.size_push]
      exact Nat.ne_of_lt (Nat.lt_succ_of_lt low)
    have n2 : s.heap.objs.size ∉ [(s.heap.push (bareS led)).objs.size, l] := fun q => by
      rw [Heap.size_push, List.mem_cons, List.mem_singleton] at q
      rcases q with q | q
      · exact Nat.ne_of_lt (Nat.lt_succ_self _) q
      · exact Nat.ne_of_gt low q
    have len : xs.length = items.size := by rw [← StrsAre.len_eq tx, Array.length_toList]
    refine textsIn ((Walks.tuple hot3 _ l n1 items).toS) _ n2 xs len (by omega) (fun i v hv => SS.strs_at tx i v (by rw [Array.getElem?_toList]; exact hv)) (items.size - 0) 0 _ rfl (Nat.zero_le _)
      ⟨⟨_, Heap.get?_push_size _ rfl, rfl, rfl⟩, src1.push _⟩ ?_ fun z mv hS => ?_
    · exact SetOf_congr ((setObjOf_fresh (knd := strKind prog w) led).setOf (Heap.get?_push_of_some _ new) (by omega)) (fun _ => rfl) rfl
    · obtain ⟨h2, g, d, t2, os⟩ := z
      obtain rfl : g = s.gens := mv.gens
      obtain rfl : d = s.drawn := mv.drawn
      obtain rfl : os = s.os := mv.os
      refine wpAny_pure ?_
      show wpAny _ _ (ret Value.none) _ _ _
      refine wpAny_pure ⟨rfl, h2, t2, rfl, hS, fun b o lt e => mv.heap b o (fun q => ?_) (Heap.get?_push_of_some _ (Heap.get?_push_of_some _ e))⟩
      rw [Heap.size_push, List.mem_cons, List.mem_singleton] at q
      rcases q with q | q
      · exact Nat.ne_of_lt lt q
      · exact Nat.ne_of_lt (Nat.lt_succ_of_lt lt) q
  · rcases r2 with e | fl2
    · exact hr2
    cases fl2 <;> try exact hr2.elim
    obtain ⟨rfl, h2, t2, rfl, hS, old⟩ := hr2
    repeat (any_goals (first | assumption | wp_step))
    exact go _ _ hS old
end
section
variable {X : Cx}
theorem valsT_strs : ∀ {ys : List Str} {us : List Value}, Vals (ys.map V.str) us → StrsAre us ys
  | [], _, .nil => .nil
  | y :: ys, _, .cons ⟨k, e⟩ t => e ▸ .cons y k (valsT_strs t)
/-- len(set(xs)), xs a list or tuple of texts -/
def tLenTx (K : PySem.W.Frag) (ta : TE) : TE := fun σ H Q => ta σ H fun x H1 => ∃ l, ∃ xs : List Str, x = .ref l ∧ (SqL K H1 l (xs.map V.str) ∨ SqT K H1 l (xs.map V.str)) ∧ xs.length ≤ 4000 ∧ Q (.int (cntS xs xs.length : Nat)) H1
theorem pe_lenTx {a : Expr} {ta : TE} {p p2 q pos : Pos} (hg : Gl X "len") (hm : X.mg "len" = none) (hg2 : Gl X "set") (hm2 : X.mg "set" = none) (ha : PE X a ta) (hc : X.calm = true := by rfl)
    (na : starEach [a] X.env = (false, eval a X.env) :: starEach [] X.env := by rfl) : PE X (.Call (.Name "len" p) [.Call (.Name "set" p2) [a] [] q] [] pos) (tLenTx X.K ta) := by
  constructor
  intro pins s σ H Q I h
  refine Call_ (ld_blt I hg hm PySem.boot_len (callWith_builtin1 (args_cons ?_ rfl) rfl rfl))
  refine Call_ (ld_blt I hg2 hm2 boot_set (callWith_type1 (args_cons (thn (ha.run pins s σ H _ I h) fun v z ⟨x, H1, I1, r1, q1⟩ => args_nil ?_) na) na rfl))
  obtain ⟨l, xs, rfl, hq, few, q1⟩ := q1
  cases r1
  have few2 : xs.length + 1 < scanBound := by
    show _ < 4096
    omega
  have done : ∀ (its : List Value), Vals (xs.map V.str) its → ∀ (h2 : Heap) (t2 : Nat), h2.SetOf (strKind X.prog X.w) z.heap.objs.size (firstS xs its.toArray.size) (cntS xs its.toArray.size) →
      (∀ b o, b < z.heap.objs.size → z.heap.get? b = some o → h2.get? b = some o) →
      wpAny (model X.prog X.w) X.A (spliced (backTo pos (starEach [] X.env))) (fun vs z2 => wpAny (model X.prog X.w) X.A (call (.builtin "len") (Value.ref z.heap.objs.size :: vs)) (EP X pins σ Q) X.xe z2) X.xe { z with heap := h2, toks := t2 } :=
    fun its r h2 t2 ⟨o, es, ep, t, ho, hex, hd, _, _, _, hf, hn⟩ old => by
      have I2 : Inv X pins σ H1 { z with heap := h2, toks := t2 } := I1.kept fun b o e => old b o (Heap.lt_size e) e
      have e1 : its.toArray.size = xs.length := by rw [List.size_toArray, ← r.length, List.length_map]
      have le := cntS_le xs xs.length
      rw [e1] at hn
      exact args_nil (call_len_set ho hex hd hf (by omega) ⟨.int (cntS xs xs.length : Nat), H1, I2.tok _, ⟨_, by rw [hn]⟩, q1⟩)
  rcases hq with hq | hq
  · obtain ⟨its, r, pl, _⟩ := I1.list hq
    exact setOf_list (I1.ok.hd hc) pl.isList (valsT_strs (by simpa using r)) few2 (done its r)
  · obtain ⟨its, r, pl, _⟩ := I1.tuple hq
    exact setOf_tuple (I1.ok.hd hc) pl (valsT_strs (by simpa using r)) few2 (done its r)
end
end
/-! ### rules of my own -/
section
variable {X : Cx}
/-- == of a list (a tuple) and an empty one -/
def rEqNil (K : PySem.W.Frag) : V → V → Hp → VK → Prop := fun x y H Q => ∃ (p q : Addr) (xs : List V), x = .ref p ∧ y = .ref q ∧ ((SqL K H p xs ∧ SqL K H q []) ∨ (SqT K H p xs ∧ SqT K H q [])) ∧ Q (.bl xs.isEmpty) H
theorem op_eqNil (hu : X.A.units < cLine) : OpR X (compareOp .Eq) (rEqNil X.K) := by
  intro pins s σ H x y v u Q I rx ry h
  obtain ⟨p, q, xs, rfl, rfl, hpq, k⟩ := h
  cases rx
  cases ry
  rcases hpq with ⟨h1, h2⟩ | ⟨h1, h2⟩
  · obtain ⟨its, r, pl, hz⟩ := I.list h1
    obtain ⟨its2, r2, pl2, hz2⟩ := I.list h2
    cases r2
    have hl := r.length
    cases xs with
    | nil =>
      cases r
      exact SeqAt.eq_listAt (e := fun _ => true) pl.isList pl2.isList rfl hu (fun j h1 _ => absurd h1 (Nat.not_lt_zero _)) ⟨.bl true, H, I, rfl, k⟩
    | cons a b =>
      refine SeqAt.eq_list_lengthsAt pl.isList pl2.isList ?_ hu ⟨.bl false, H, I, rfl, k⟩
      cases its with
      | nil => cases r
      | cons c d => simp
  · obtain ⟨its, r, pl, hz⟩ := I.tuple h1
    obtain ⟨its2, r2, pl2, hz2⟩ := I.tuple h2
    cases r2
    have e1 : s.heap.IsTuple p its.toArray := pl
    have e2 : s.heap.IsTuple q #[] := pl2
    refine SeqAt.eq_tupleAt (e := fun _ => true) e1 e2 hu (fun j _ h2 => absurd h2 (Nat.not_lt_zero _)) ⟨.bl xs.isEmpty, H, I, ?_, k⟩
    cases xs with
    | nil => cases r; rfl
    | cons a b =>
      cases its with
      | nil => cases r
      | cons c d =>
        show Value.bool _ = Value.bool false
        congr 1
/-- + of tuples, the left one not empty: some tuple of both -/
def rCatA1 (K : PySem.W.Frag) : V → V → Hp → VK → Prop := fun x y H Q => ∃ a b xs ys, x = .ref a ∧ y = .ref b ∧ SqT K H a xs ∧ H a = some (.tup xs) ∧ SqT K H b ys ∧ xs.length + ys.length ≤ sizeLine ∧ xs ≠ [] ∧
  ∀ p H', (∀ b o, H b = some o → H' b = some o) → H' p = some (.tup (xs ++ ys)) → Q (.ref p) H'
theorem op_catA1 : OpR X (binaryOp .Add) (rCatA1 X.K) := by
  intro pins s σ H x y v u Q I rx ry h
  obtain ⟨a, b, xs, ys, rfl, rfl, h1, h1', h2, hz, hne, q⟩ := h
  refine op_catA pins s σ H _ _ v u Q I rx ry ⟨a, b, xs, ys, rfl, rfl, h1, h2, hz, fun e => absurd e hne, fun _ e => ?_, fun _ _ p hp => ?_⟩
  · subst e
    exact q a H (fun _ _ h => h) (by rw [List.append_nil]; exact h1')
  · exact q p _ (fun b o e => by rw [upd_ne (ne_of_none e hp)]; exact e) upd_same
theorem call_repr_bool : CallR X (.builtin "repr") (fun xs H Q => ∃ b, xs = [.bl b] ∧ Q (.str (if b then "True" else "False")) H) := by
  intro pins s σ H xs us Q I r h
  obtain ⟨b, rfl, q⟩ := h
  obtain ⟨u, rfl, rfl⟩ := vals1 r
  exact PySem.P.repr_of_bool ⟨.str _, H, I.tok _, ⟨_, rfl⟩, q⟩
end

/-- a thing and its built-in kind -/
inductive Kd (H : Hp) : V → String → Prop where
  | non : Kd H .non "NoneType"
  | bl (b : Bool) : Kd H (.bl b) "bool"
  | int (i : Int) : Kd H (.int i) "int"
  | str (z : Str) (h : z.length ≤ 1000) : Kd H (.str z) "str"
  | lst {a : Addr} {xs : List V} (e : H a = some (.lst xs)) : Kd H (.ref a) "list"
  | tup {a : Addr} {xs : List V} (e : H a = some (.tup xs)) : Kd H (.ref a) "tuple"
  | dK {a : Addr} {kvs : List (Key × V)} (e : H a = some (.dK kvs)) : Kd H (.ref a) "dict"
theorem Kd.ty {K : PySem.W.Frag} {H : Hp} {v : V} {n : String} (h : Kd H v n) : TyX K H v (.type n) := by
  cases h with
  | non => exact .base .non
  | bl b => exact .base (.bl b)
  | int i => exact .base (.int i)
  | str z h => exact .base (.str z)
  | lst e => exact .base (.lst e)
  | tup e => exact .base (.tup e)
  | dK e => exact .base (.dK e)
theorem Kd.same {H H' : Hp} {v : V} {n : String} (h : Kd H v n) (s : Same H H') : Kd H' v n := by
  cases h with
  | non => exact .non
  | bl b => exact .bl b
  | int i => exact .int i
  | str z h => exact .str z h
  | lst e => exact .lst (s _ _ e)
  | tup e => exact .tup (s _ _ e)
  | dK e => exact .dK (s _ _ e)
theorem _root_.L2.Same.seqT {K : PySem.W.Frag} {H H' : Hp} {a : Addr} {xs : List V} (e : Same H H') (h : SqT K H a xs) : SqT K H' a xs := by
  rcases h with (h | ⟨o, h⟩) | h
  · exact .inl (.inl (e _ _ h))
  · exact .inl (.inr ⟨o, e _ _ h⟩)
  · exact .inr h
/-- a written tuple -/
def isTupV (oc : Value) (d : PySem.Data) (xs : List V) : Bool := match oc, d with
  | .type n, .seq its _ => (n == "tuple") && decide (its.size ≤ 1000) && decide (its.toList.map absV = xs.map some)
  | _, _ => false
theorem vals_of_abs : ∀ {xs : List V} {us : List Value}, us.map absV = xs.map some → Vals xs us
  | [], [], _ => .nil
  | [], _ :: _, h => by cases h
  | _ :: _, [], h => by cases h
  | x :: xs, u :: us, h => by
    rw [List.map_cons, List.map_cons] at h
    injection h with h1 h2
    refine .cons ?_ (vals_of_abs h2)
    cases u <;> simp only [absV, Option.some.injEq, reduceCtorEq] at h1 <;> subst h1 <;> first | rfl | exact ⟨_, rfl⟩
theorem sqT_written {K : PySem.W.Frag} {H : Hp} {a : Addr} {oc : Value} {od : Option Addr} {d : PySem.Data} {sl : Array (Option Value)} {xs : List V} (l : K.lookup a = some ⟨oc, od, d, sl⟩) (h : isTupV oc d xs = true) : SqT K H a xs := by
  unfold isTupV at h
  split at h
  · simp only [Bool.and_eq_true, beq_iff_eq, decide_eq_true_eq] at h
    obtain ⟨⟨h1, h2⟩, h3⟩ := h
    subst h1
    exact .inr ⟨_, _, _, l, rfl, rfl, Nat.le_trans h2 (by decide), vals_of_abs h3⟩
  · cases h

abbrev sCount : Stmt := top 3
abbrev sName : Stmt := top 5
abbrev sRow : Stmt := top 28
abbrev sNeed : Stmt := top 29
def letters : Str := "abcdefghijklmnopqrstuvwxyz"
def nameOk (z : Str) : Bool := if 1 ≤ z.length ∧ z.length ≤ 8 then z.cps.toList.all (fun c => decide (c ∈ letters.cps.toList)) else false
def isName : V → Bool
  | .str z => nameOk z
  | _ => false
def isCount : V → Bool
  | .int i => decide (0 ≤ i)
  | _ => false
def needed (z : Str) : Nat := if z = "set" then 2 else if z = "rest" then 0 else 1
structure MTxt (K : PySem.W.Frag) (mg : Str → Option Value) : Prop where
  isi : mg "isinstance" = none
  int : mg "int" = none
  bool : mg "bool" = none
  str : mg "str" = none
  tup : mg "tuple" = none
  len : mg "len" = none
  all : mg "all" = none
  letters : ∃ t, mg "LETTERS" = some (.str letters t)
  longest : ∃ t, mg "LONGEST_NAME" = some (.int 8 t)
  goals : ∃ t, mg "MOST_GOALS" = some (.int 4 t)

def spCount : Sp := fun vs H Q _ => ∃ (v : V) (n : String), vs = [v] ∧ Kd H v n ∧ Q (.bl (isCount v)) H
def spName : Sp := fun vs H Q _ => ∃ (v : V) (n : String), vs = [v] ∧ Kd H v n ∧ ∀ H', Same H H' → Q (.bl (isName v)) H'
def spNeed : Sp := fun vs H Q _ => ∃ (z : Str), vs = [.str z] ∧ Q (.int (needed z)) H

section
variable {P : Program} {w : World} {K : PySem.W.Frag} {mg : Str → Option Value} {base : Heap}
theorem scCount : FnScope ["value"] ["value"] (defScope sCount) := ⟨rfl, rfl, rfl, by decide +kernel, rfl, by decide +kernel, by decide +kernel⟩
theorem ok_count {f : Addr} {fd : FuncData} (F : Fun K "is_count" "is_count" sCount f fd) (T : MTxt K mg) : FnOk P w K mg base CX0 1 f fd ["value"] spCount := by
  refine F.ok scCount (fun vs H Q E h => ?_) (fun cdv A outer s H vs Q E hr h => ?_)
  · obtain ⟨v, n, rfl, _⟩ := h
    rfl
  · obtain ⟨v, n, rfl, hk, k⟩ := h
    refine ⟨_, pss_one (ps_ret (pe_and (pe_callB call_isi (by rfl) T.isi (by decide +kernel) (pa_cons (pv 0) (pa_cons (pe_bltn (v := .ty "int") (by rfl) T.int (by decide +kernel) rfl) pa_nil)))
      (pe_and (pe_not (pe_callB call_isi (by rfl) T.isi (by decide +kernel) (pa_cons (pv 0) (pa_cons (pe_bltn (v := .ty "bool") (by rfl) T.bool (by decide +kernel) rfl) pa_nil)))) (pe_one (pe_cmpR op_ge (pv 0) pe_int (nomark _)))))), ?_⟩
    have ty : TyX K H v (.type n) := hk.ty
    cases hk with
    | int i => exact ⟨_, rfl, _, _, _, _, true, rfl, .ty _, ty, kit_ty (by decide +kernel), _, rfl, iteT ⟨_, rfl, _, _, _, _, false, rfl, .ty _, ty, kit_ty (by decide +kernel), _, rfl, _, rfl, iteT ⟨_, rfl, _, _, rfl, rfl, k⟩⟩⟩
    | bl b => exact ⟨_, rfl, _, _, _, _, true, rfl, .ty _, ty, kit_ty (by decide +kernel), _, rfl, iteT ⟨_, rfl, _, _, _, _, true, rfl, .ty _, ty, kit_ty (by decide +kernel), _, rfl, _, rfl, iteF k⟩⟩
    | non => exact ⟨_, rfl, _, _, _, _, false, rfl, .ty _, ty, kit_ty (by decide +kernel), _, rfl, iteF k⟩
    | str z hz => exact ⟨_, rfl, _, _, _, _, false, rfl, .ty _, ty, kit_ty (by decide +kernel), _, rfl, iteF k⟩
    | lst e => exact ⟨_, rfl, _, _, _, _, false, rfl, .ty _, ty, kit_ty (by decide +kernel), _, rfl, iteF k⟩
    | tup e => exact ⟨_, rfl, _, _, _, _, false, rfl, .ty _, ty, kit_ty (by decide +kernel), _, rfl, iteF k⟩
    | dK e => exact ⟨_, rfl, _, _, _, _, false, rfl, .ty _, ty, kit_ty (by decide +kernel), _, rfl, iteF k⟩

theorem scName : FnScope ["value", "letter"] ["value"] (defScope sName) := ⟨rfl, rfl, rfl, by decide +kernel, rfl, by decide +kernel, by decide +kernel⟩
theorem ok_name {f : Addr} {fd : FuncData} (F : Fun K "is_name" "is_name" sName f fd) (T : MTxt K mg) : FnOk P w K mg base CX0 1 f fd ["value"] spName := by
  refine F.ok scName (fun vs H Q E h => ?_) (fun cdv A outer s H vs Q E hr h => ?_)
  · obtain ⟨v, n, rfl, _⟩ := h
    rfl
  · obtain ⟨v, n, rfl, hk, k⟩ := h
    obtain ⟨tl, hL⟩ := T.letters
    obtain ⟨tg, hG⟩ := T.longest
    refine ⟨_, pss_cons (ps_if (PW.pt (pw_or (pt_not (pt_val (pe_callB call_isi (by rfl) T.isi (by decide +kernel) (pa_cons (pv 0) (pa_cons (pe_bltn (v := .ty "str") (by rfl) T.str (by decide +kernel) rfl) pa_nil)))))
        (pw_or1 (pt_not (pt_chain op_le op_le pe_int (pe_callB call_len_str (by rfl) T.len PySem.boot_len (pa_cons (pv 0) pa_nil)) (pe_glob (v := .int 8) rfl hG ⟨_, rfl⟩))))))
        (pss_one (ps_ret pe_bl)) pss_nil)
      (pss_one (ps_ret (pe_callB (cr_all rfl) (by rfl) T.all (by decide +kernel) (pa_cons (pe_lc (own := [("letter", 1)]) (g := gName 1) (by rfl) scName.nd (pi_str (pv 0)) (blkOk_by (own := [("letter", 1)]) (N := ["value", "letter"]) (sc := defScope sName) (by decide +kernel))
        (fun _ _ _ _ _ => pg_name (i := 1) scName.nd rfl (Or.inl rfl)) (fun _ _ _ _ _ => pts_nil)
        (fun _ _ _ _ _ => pe_cmpR op_in_sign (pv 1) (pe_glob (v := .str letters) rfl hL ⟨_, rfl⟩) (by rfl))) pa_nil)))), ?_⟩
    have ty : TyX K H v (.type n) := hk.ty
    cases hk with
    | str z hz =>
      refine ⟨_, rfl, _, _, _, _, true, rfl, .ty _, ty, kit_ty (by decide +kernel), _, rfl, ?_⟩
      refine iteF ⟨_, rfl, _, rfl, Nat.le_trans hz (by decide), _, _, rfl, rfl, _, rfl, ite2 (fun h1 => ?_) (fun h1 => ?_)⟩
      · refine ⟨_, _, rfl, rfl, _, rfl, ?_⟩
        have g1 : 1 ≤ z.length := by
          have := of_decide_eq_true h1
          omega
        refine ite2 (fun h2 => ?_) (fun h2 => ?_)
        · have g2 : ¬ z.length ≤ 8 := fun q => by
            rw [decide_eq_true (show ((z.length : Nat) : Int) ≤ 8 by omega)] at h2
            cases h2
          have e : isName (.str z) = false := by
            show nameOk z = false
            unfold nameOk
            rw [if_neg (fun q => g2 q.2)]
          rw [e] at k
          exact k _ (Same.refl _)
        · have g2 : z.length ≤ 8 := by
            by_cases q : z.length ≤ 8
            · exact q
            · rw [decide_eq_false (show ¬ ((z.length : Nat) : Int) ≤ 8 by omega)] at h2
              exact absurd rfl h2
          refine ⟨_, rfl, _, rfl, fun D hD => lc_it walk_str (fun i H' => H' = upd H D (.lst (((z.cps.toList.take i).map fun c => decide (c ∈ letters.cps.toList)).map V.bl)))
            rfl (fun _ _ _ _ => True.intro) ?_ ?_⟩
          · rintro i x H' H'' hi rfl ⟨rfl, c, hc, rfl⟩
            refine ⟨rfl, _, rfl, c, letters, rfl, rfl, _, upd_same, ?_, ?_⟩
            · rw [List.length_map, List.length_map, List.length_take]
              exact Nat.lt_of_le_of_lt (Nat.le_trans (Nat.min_le_right _ _) (show z.cps.toList.length ≤ 1000 from hz)) (by decide)
            · have hc2 : z.cps.toList[i]? = some c := by simpa using hc
              rw [upd_upd, List.take_add_one, hc2, List.map_append, List.map_append]
              rfl
          · rintro H' rfl
            refine ⟨_, _, rfl, .inl (.inl upd_same), ?_⟩
            have e : isName (.str z) = (((z.cps.toList.take z.cps.size).map fun c => decide (c ∈ letters.cps.toList)).all id) := by
              show nameOk z = _
              unfold nameOk
              rw [if_pos ⟨g1, g2⟩, List.take_of_length_le (by simp), List.all_map]
              rfl
            rw [← e]
            exact k _ (Same.new hD)
      · have g1 : ¬ 1 ≤ z.length := fun q => h1 (decide_eq_true (by omega))
        have e : isName (.str z) = false := by
          show nameOk z = false
          unfold nameOk
          rw [if_neg (fun q => g1 q.1)]
        rw [e] at k
        exact ⟨_, rfl, iteT (k _ (Same.refl _))⟩
    | int i => exact ⟨_, rfl, _, _, _, _, false, rfl, .ty _, ty, kit_ty (by decide +kernel), _, rfl, iteT (iteT (k _ (Same.refl _)))⟩
    | bl b => exact ⟨_, rfl, _, _, _, _, false, rfl, .ty _, ty, kit_ty (by decide +kernel), _, rfl, iteT (iteT (k _ (Same.refl _)))⟩
    | non => exact ⟨_, rfl, _, _, _, _, false, rfl, .ty _, ty, kit_ty (by decide +kernel), _, rfl, iteT (iteT (k _ (Same.refl _)))⟩
    | lst e => exact ⟨_, rfl, _, _, _, _, false, rfl, .ty _, ty, kit_ty (by decide +kernel), _, rfl, iteT (iteT (k _ (Same.refl _)))⟩
    | tup e => exact ⟨_, rfl, _, _, _, _, false, rfl, .ty _, ty, kit_ty (by decide +kernel), _, rfl, iteT (iteT (k _ (Same.refl _)))⟩
    | dK e => exact ⟨_, rfl, _, _, _, _, false, rfl, .ty _, ty, kit_ty (by decide +kernel), _, rfl, iteT (iteT (k _ (Same.refl _)))⟩

theorem scNeed : FnScope ["word"] ["word"] (defScope sNeed) := ⟨rfl, rfl, rfl, by decide +kernel, rfl, by decide +kernel, by decide +kernel⟩
theorem ok_need {f : Addr} {fd : FuncData} (F : Fun K "_names_needed" "_names_needed" sNeed f fd) (T : MTxt K mg) : FnOk P w K mg base CX0 1 f fd ["word"] spNeed := by
  refine F.ok scNeed (fun vs H Q E h => ?_) (fun cdv A outer s H vs Q E hr h => ?_)
  · obtain ⟨z, rfl, _⟩ := h
    rfl
  · obtain ⟨z, rfl, k⟩ := h
    refine ⟨_, pss_cons (ps_if (pt_cmpR op_eq (pv 0) pe_str (nomark _)) (pss_one (ps_ret pe_int)) pss_nil) (pss_one (ps_ret (pe_ifExp (pt_cmpR op_eq (pv 0) pe_str (nomark _)) pe_int pe_int))), ?_⟩
    have e : needed z = if z = "set" then 2 else if z = "rest" then 0 else 1 := rfl
    refine ⟨_, rfl, rfl, _, rfl, ite2 (fun h1 => ?_) (fun h1 => ?_)⟩
    · have g : z = "set" := by
        have := of_decide_eq_true h1
        injection this
      rw [e, if_pos g] at k
      exact k
    · have g : ¬ z = "set" := fun q => h1 (decide_eq_true (by rw [q]))
      rw [e, if_neg g] at k
      refine ⟨_, rfl, rfl, _, rfl, ite2 (fun h2 => ?_) (fun h2 => ?_)⟩
      · have g : z = "rest" := by
          have := of_decide_eq_true h2
          injection this
        rw [if_pos g] at k
        exact k
      · have g : ¬ z = "rest" := fun q => h2 (decide_eq_true (by rw [q]))
        rw [if_neg g] at k
        exact k
end
def wordsL : List Str := ["open", "close", "renew", "use", "set", "drop", "lock", "unlock", "go", "rest"]
def rowS (z : Str) (r : List V) : Bool := if z ∈ wordsL then (if z = "go" then (if 1 ≤ r.length ∧ r.length ≤ 4 then r.all isCount else false) else if r.length = needed z then r.all isName else false) else false
def rowL : List V → Bool
  | .str z :: r => rowS z r
  | _ => false
/-- a thing that is asked whether it is a row -/
def RowV (H : Hp) (v : V) : Prop := (∃ n, Kd H v n ∧ n ≠ "tuple") ∨ ∃ a xs, v = .ref a ∧ H a = some (.tup xs) ∧ xs.length ≤ 1000 ∧ ∀ x ∈ xs, ∃ n, Kd H x n
def rowOf (H : Hp) : V → Bool
  | .ref a => match H a with
    | some (.tup xs) => rowL xs
    | _ => false
  | _ => false
theorem RowV.same {H H' : Hp} {v : V} (h : RowV H v) (s : Same H H') : RowV H' v := by
  rcases h with ⟨n, k, e⟩ | ⟨a, xs, rfl, e, hl, hx⟩
  · exact .inl ⟨n, k.same s, e⟩
  · refine .inr ⟨a, xs, rfl, s _ _ e, hl, fun x m => ?_⟩
    obtain ⟨n, k⟩ := hx x m
    exact ⟨n, k.same s⟩
theorem rowOf_tup {H : Hp} {a : Addr} {xs : List V} (e : H a = some (.tup xs)) : rowOf H (.ref a) = rowL xs := by
  simp only [rowOf, e]
theorem rowOf_no {H : Hp} {v : V} {n : String} (k : Kd H v n) (e : n ≠ "tuple") : rowOf H v = false := by
  cases k with
  | lst h => simp only [rowOf, h]
  | dK h => simp only [rowOf, h]
  | tup h => exact absurd rfl e
  | _ => rfl
def spRow : Sp := fun vs H Q _ => ∃ v, vs = [v] ∧ RowV H v ∧ ∀ H', Same H H' → Q (.bl (rowOf H v)) H'
theorem inV_strs (z : Str) : ∀ ys : List Str, inV (.str z) (ys.map V.str) = decide (z ∈ ys)
  | [] => by simp [inV]
  | y :: ys => by
    have ih := inV_strs z ys
    unfold inV at ih ⊢
    rw [List.map_cons, List.any_cons, ih]
    show ((y == z) || decide (z ∈ ys)) = decide (z ∈ y :: ys)
    by_cases e : y = z
    · subst e
      simp
    · have e2 : ¬ z = y := fun q => e q.symm
      simp [e, e2]
theorem flat_strs : ∀ ys : List Str, (ys.map V.str).all flatV = true
  | [] => rfl
  | y :: ys => by
    rw [List.map_cons, List.all_cons, flat_strs ys]
    rfl
theorem at0 {α : Type} (x : α) (r : List α) : atI (x :: r) 0 = some x := atI_nat (j := 0) rfl
theorem cut1 (x : V) (r : List V) : cutV (x :: r) (some 1) none = r := by
  unfold cutV
  rw [show HT.sIx (x :: r).length 0 (some 1) = 1 from by
    show min 1 (r.length + 1) = 1
    omega]
  show List.take (r.length + 1 - 1) r = r
  rw [Nat.add_sub_cancel, List.take_length]
theorem cut1_not (x : V) (r : List V) : ¬ (HT.sIx (x :: r).length 0 (some 1) = 0 ∧ HT.sIx (x :: r).length (x :: r).length none = (x :: r).length) := fun q => by
  have h := q.1
  have e : HT.sIx (x :: r).length 0 (some 1) = 1 := by
    show min 1 (r.length + 1) = 1
    omega
  rw [e] at h
  cases h

section
variable {P : Program} {w : World} {K : PySem.W.Frag} {mg : Str → Option Value} {base : Heap}
theorem scRow : FnScope ["value", "word", "goal", "name"] ["value"] (defScope sRow) := ⟨rfl, rfl, rfl, by decide +kernel, rfl, by decide +kernel, by decide +kernel⟩
theorem ok_row {f fC fN fD aW : Addr} {fd fdC fdN fdD : FuncData} (F : Fun K "is_row" "is_row" sRow f fd) (T : MTxt K mg) (hW : mg "WORDS" = some (.ref aW)) (sW : ∀ H, SqT K H aW (wordsL.map V.str))
    (FC : Fun K "is_count" "is_count" sCount fC fdC) (bC : Binds K fdC ["value"] []) (gC : mg "is_count" = some (.ref fC))
    (FN : Fun K "is_name" "is_name" sName fN fdN) (bN : Binds K fdN ["value"] []) (gN : mg "is_name" = some (.ref fN))
    (FD : Fun K "_names_needed" "_names_needed" sNeed fD fdD) (bD : Binds K fdD ["word"] []) (gD : mg "_names_needed" = some (.ref fD)) : FnOk P w K mg base CX0 2 f fd ["value"] spRow := by
  have GC : FnOk P w K mg base CX0 1 fC fdC ["value"] spCount := ok_count FC T
  have GN : FnOk P w K mg base CX0 1 fN fdN ["value"] spName := ok_name FN T
  have GD : FnOk P w K mg base CX0 1 fD fdD ["word"] spNeed := ok_need FD T
  refine F.ok scRow (fun vs H Q E h => ?_) (fun cdv A outer s H vs Q E hr h => ?_)
  · obtain ⟨v, rfl, _⟩ := h
    rfl
  · obtain ⟨v, rfl, hv, k⟩ := h
    obtain ⟨tg, hG⟩ := T.goals
    refine ⟨_, pss_cons (ps_if (PW.pt (pw_or (pt_not (pt_val (pe_callB call_isi (by rfl) T.isi (by decide +kernel) (pa_cons (pv 0) (pa_cons (pe_bltn (v := .ty "tuple") (by rfl) T.tup (by decide +kernel) rfl) pa_nil)))))
        (pw_or1 (pt_cmpR op_eq (pe_callB call_len_seq (by rfl) T.len PySem.boot_len (pa_cons (pv 0) pa_nil)) pe_int (nomark _)))))
        (pss_one (ps_ret pe_bl)) pss_nil)
      (pss_cons (ps_set (i := 1) scRow.nd rfl (.inl rfl) (pe_ix ix_tup (pv 0) pe_int (fun _ _ => rfl)))
      (pss_cons (ps_if (PW.pt (pw_or (pt_not (pt_val (pe_callB call_isi (by rfl) T.isi (by decide +kernel) (pa_cons (pv 1) (pa_cons (pe_bltn (v := .ty "str") (by rfl) T.str (by decide +kernel) rfl) pa_nil)))))
        (pw_or1 (pt_cmpR op_notIn_seq (pv 1) (pe_glob (v := .ref aW) rfl hW rfl) (by rfl)))))
        (pss_one (ps_ret pe_bl)) pss_nil)
      (pss_cons (ps_if (pt_cmpR op_eq (pv 1) pe_str (nomark _))
        (pss_one (ps_ret (pe_and (pe_chain op_le op_le pe_int (pe_op op_sub (pe_callB call_len_seq (by rfl) T.len PySem.boot_len (pa_cons (pv 0) pa_nil)) pe_int) (pe_glob (v := .int 4) rfl hG ⟨_, rfl⟩))
          (pe_one (pe_callB (cr_all rfl) (by rfl) T.all (by decide +kernel) (pa_cons (pe_lc (own := [("goal", 2)]) (g := gName 2) (by rfl) scRow.nd (pi_tup (pe_slice sl_tup (pv 0) (po_some pe_int) po_none)) (blkOk_by (own := [("goal", 2)]) (N := ["value", "word", "goal", "name"]) (sc := defScope sRow) (by decide +kernel))
            (fun _ _ _ _ _ => pg_name (i := 2) scRow.nd rfl (Or.inl rfl)) (fun _ _ _ _ _ => pts_nil)
            (fun _ _ _ _ _ => pe_call GC hr rfl gC FC.kp bC .nil pass0 (pa_cons (pv 2) pa_nil))) pa_nil)))))) pss_nil)
      (pss_one (ps_ret (pe_and (pe_cmpR op_eq (pe_op op_sub (pe_callB call_len_seq (by rfl) T.len PySem.boot_len (pa_cons (pv 0) pa_nil)) pe_int) (pe_call GD hr rfl gD FD.kp bD .nil pass0 (pa_cons (pv 1) pa_nil)) (nomark _))
          (pe_one (pe_callB (cr_all rfl) (by rfl) T.all (by decide +kernel) (pa_cons (pe_lc (own := [("name", 3)]) (g := gName 3) (by rfl) scRow.nd (pi_tup (pe_slice sl_tup (pv 0) (po_some pe_int) po_none)) (blkOk_by (own := [("name", 3)]) (N := ["value", "word", "goal", "name"]) (sc := defScope sRow) (by decide +kernel))
            (fun _ _ _ _ _ => pg_name (i := 3) scRow.nd rfl (Or.inl rfl)) (fun _ _ _ _ _ => pts_nil)
            (fun _ _ _ _ _ => pe_call GN hr rfl gN FN.kp bN .nil pass0 (pa_cons (pv 3) pa_nil))) pa_nil))))))))), ?_⟩
    rcases hv with ⟨n, kd, ne⟩ | ⟨a, xs, rfl, ha, hl, hx⟩
    · rw [rowOf_no kd ne] at k
      refine ⟨_, rfl, _, _, _, _, false, rfl, .ty _, kd.ty, kit_ty ?_, _, rfl, iteT (iteT (k _ (Same.refl _)))⟩
      cases kd <;> first | decide +kernel | exact absurd rfl ne
    · rw [rowOf_tup ha] at k
      have sa : SqT K H a xs := .inl (.inl ha)
      refine ⟨_, rfl, _, _, _, _, true, rfl, .ty _, (Kd.tup ha).ty, kit_ty (by decide +kernel), _, rfl, iteF ⟨_, rfl, a, _, rfl, .inr sa, rfl, _, rfl, ite2 (fun h0 => ?_) (fun h0 => ?_)⟩⟩
      · have e : xs = [] := by
          have := of_decide_eq_true h0
          injection this with this
          exact List.eq_nil_of_length_eq_zero (by omega)
        subst e
        exact k _ (Same.refl _)
      · cases xs with
        | nil => exact absurd (decide_eq_true rfl) h0
        | cons x r =>
          refine ⟨_, rfl, a, _, 0, x, rfl, rfl, sa, at0 _ _, ?_⟩
          obtain ⟨n, kx⟩ := hx x (List.mem_cons_self ..)
          have kr : ∀ y ∈ r, ∃ n, Kd H y n := fun y m => hx y (List.mem_cons_of_mem _ m)
          have hlr : r.length ≤ 999 := by
            have : (x :: r).length = r.length + 1 := rfl
            omega
          have tx : TyX K H x (.type n) := kx.ty
          cases kx with
          | str z hz =>
            refine ⟨_, rfl, _, _, _, _, true, rfl, .ty _, tx, kit_ty (by decide +kernel), _, rfl, iteF ⟨_, rfl, aW, _, rfl, .inr (sW _), rfl, flat_strs _, _, rfl, ?_⟩⟩
            rw [inV_strs]
            refine ite2 (fun hm => ?_) (fun hm => ?_)
            · have hn : ¬ z ∈ wordsL := fun q => by
                rw [decide_eq_true q] at hm
                cases hm
              have e : rowL (.str z :: r) = false := by
                show rowS z r = false
                unfold rowS
                rw [if_neg hn]
              rw [e] at k
              exact k _ (Same.refl _)
            · have hn : z ∈ wordsL := by
                by_cases q : z ∈ wordsL
                · exact q
                · rw [decide_eq_false q] at hm
                  exact absurd rfl hm
              have et : rowL (.str z :: r) = (if z = "go" then (if 1 ≤ r.length ∧ r.length ≤ 4 then r.all isCount else false) else if r.length = needed z then r.all isName else false) := by
                show rowS z r = _
                unfold rowS
                rw [if_pos hn]
              rw [et] at k
              have elen : (((V.str z :: r).length : Nat) : Int) - 1 = (r.length : Int) := by
                show (((r.length + 1 : Nat)) : Int) - 1 = _
                omega
              refine ⟨_, rfl, rfl, _, rfl, ite2 (fun hg => ?_) (fun hg => ?_)⟩
              · have g : z = "go" := by
                  have := of_decide_eq_true hg
                  injection this
                rw [if_pos g] at k
                refine ⟨_, rfl, a, _, rfl, .inr sa, _, _, rfl, rfl, _, _, rfl, rfl, _, rfl, ?_⟩
                rw [elen]
                refine ite2 (fun h1 => ?_) (fun h1 => ?_)
                · have g1 : 1 ≤ r.length := by
                    have := of_decide_eq_true h1
                    omega
                  refine ⟨_, _, rfl, rfl, _, rfl, ite2 (fun h2 => ?_) (fun h2 => ?_)⟩
                  · have g2 : r.length ≤ 4 := by
                      have := of_decide_eq_true h2
                      omega
                    rw [if_pos ⟨g1, g2⟩] at k
                    refine ⟨_, rfl, _, rfl, a, _, rfl, sa, cut1_not _ _, fun p hp => ?_⟩
                    rw [cut1]
                    have s1 : Same H (upd H p (.tup r)) := Same.new hp
                    have sr : SqT K (upd H p (.tup r)) p r := .inl (.inl upd_same)
                    refine ⟨p, rfl, ⟨_, sr⟩, fun D hD => lc_it walk_tup (fun i H' => H' = upd (upd H p (.tup r)) D (.lst (((r.take i).map isCount).map V.bl)))
                      rfl (fun i H' _ e => by rw [e]; exact .inl (.inl ((Same.new hD) _ _ upd_same))) ?_ ?_⟩
                    · rintro i y H' H'' hi rfl ⟨rfl, hy⟩
                      obtain ⟨m, ky⟩ := kr y (List.mem_of_getElem? hy)
                      refine ⟨rfl, _, rfl, y, m, rfl, (ky.same s1).same (Same.new hD), _, upd_same, ?_, ?_⟩
                      · rw [List.length_map, List.length_map, List.length_take]
                        exact Nat.lt_of_le_of_lt (Nat.le_trans (Nat.min_le_right _ _) hlr) (by decide)
                      · rw [upd_upd, List.take_add_one, hy, List.map_append, List.map_append]
                        rfl
                    · rintro H' rfl
                      refine ⟨_, _, rfl, .inl (.inl upd_same), ?_⟩
                      have e : r.all isCount = (((r.take r.length).map isCount).all id) := by
                        rw [List.take_length, List.all_map]
                        rfl
                      rw [← e]
                      exact k _ (s1.trans (Same.new hD))
                  · have g2 : ¬ r.length ≤ 4 := fun q => h2 (decide_eq_true (by omega))
                    rw [if_neg (fun q => g2 q.2)] at k
                    exact k _ (Same.refl _)
                · have g1 : ¬ 1 ≤ r.length := fun q => h1 (decide_eq_true (by omega))
                  rw [if_neg (fun q => g1 q.1)] at k
                  exact ⟨_, rfl, k _ (Same.refl _)⟩
              · have g : ¬ z = "go" := fun q => hg (decide_eq_true (by rw [q]))
                rw [if_neg g] at k
                refine ⟨_, rfl, a, _, rfl, .inr sa, _, _, rfl, rfl, _, rfl, z, rfl, rfl, _, rfl, ?_⟩
                show if decide (V.int ((((V.str z :: r).length : Nat) : Int) - 1) = V.int (needed z)) = true then _ else _
                rw [elen]
                refine ite2 (fun h1 => ?_) (fun h1 => ?_)
                · have g1 : r.length = needed z := by
                    have := of_decide_eq_true h1
                    injection this with this
                    omega
                  rw [if_pos g1] at k
                  refine ⟨_, rfl, _, rfl, a, _, rfl, sa, cut1_not _ _, fun p hp => ?_⟩
                  rw [cut1]
                  have s1 : Same H (upd H p (.tup r)) := Same.new hp
                  have sr : SqT K (upd H p (.tup r)) p r := .inl (.inl upd_same)
                  refine ⟨p, rfl, ⟨_, sr⟩, fun D hD => lc_it walk_tup (fun i H' => Same (upd H p (.tup r)) H' ∧ H' D = some (.lst (((r.take i).map isName).map V.bl)))
                    ⟨Same.new hD, upd_same⟩ (fun i H' _ e => e.1.seqT sr) ?_ ?_⟩
                  · rintro i y H' H'' hi ⟨s2, hD2⟩ ⟨rfl, hy⟩
                    obtain ⟨m, ky⟩ := kr y (List.mem_of_getElem? hy)
                    refine ⟨rfl, _, rfl, y, m, rfl, (ky.same s1).same s2, fun H3 s3 => ⟨_, s3 _ _ hD2, ?_, ?_⟩⟩
                    · rw [List.length_map, List.length_map, List.length_take]
                      exact Nat.lt_of_le_of_lt (Nat.le_trans (Nat.min_le_right _ _) hlr) (by decide)
                    · refine ⟨fun b o e => ?_, ?_⟩
                      · rw [upd_ne (ne_of_none e hD)]
                        exact s3 _ _ (s2 _ _ e)
                      · rw [upd_same, List.take_add_one, hy, List.map_append, List.map_append]
                        rfl
                  · rintro H' ⟨s2, hD2⟩
                    refine ⟨_, _, rfl, .inl (.inl hD2), ?_⟩
                    have e : r.all isName = (((r.take r.length).map isName).all id) := by
                      rw [List.take_length, List.all_map]
                      rfl
                    rw [← e]
                    exact k _ (s1.trans s2)
                · have g1 : ¬ r.length = needed z := fun q => h1 (decide_eq_true (by rw [q]))
                  rw [if_neg g1] at k
                  exact k _ (Same.refl _)
          | int i => exact ⟨_, rfl, _, _, _, _, false, rfl, .ty _, tx, kit_ty (by decide +kernel), _, rfl, iteT (iteT (k _ (Same.refl _)))⟩
          | bl b => exact ⟨_, rfl, _, _, _, _, false, rfl, .ty _, tx, kit_ty (by decide +kernel), _, rfl, iteT (iteT (k _ (Same.refl _)))⟩
          | non => exact ⟨_, rfl, _, _, _, _, false, rfl, .ty _, tx, kit_ty (by decide +kernel), _, rfl, iteT (iteT (k _ (Same.refl _)))⟩
          | lst e => exact ⟨_, rfl, _, _, _, _, false, rfl, .ty _, tx, kit_ty (by decide +kernel), _, rfl, iteT (iteT (k _ (Same.refl _)))⟩
          | tup e => exact ⟨_, rfl, _, _, _, _, false, rfl, .ty _, tx, kit_ty (by decide +kernel), _, rfl, iteT (iteT (k _ (Same.refl _)))⟩
          | dK e => exact ⟨_, rfl, _, _, _, _, false, rfl, .ty _, tx, kit_ty (by decide +kernel), _, rfl, iteT (iteT (k _ (Same.refl _)))⟩
end
abbrev sIndex : Stmt := top 4
abbrev sListing : Stmt := top 6
abbrev sNames : Stmt := top 7
abbrev sAmong : Stmt := top 30
/-! ### list or tuple -/
section
variable {X : Cx}
def iEither (t1 t2 : TI) : TI := fun σ H R => t1 σ H R ∨ t2 σ H R
theorem pi_either {tg e : Expr} {t1 t2 : TI} (h1 : PI X tg e t1) (h2 : PI X tg e t2) : PI X tg e (iEither t1 t2) :=
  ⟨fun pins s σ H R I h => h.elim (h1.run pins s σ H R I) (h2.run pins s σ H R I)⟩
end
/-- a list (tracked) or a tuple of these -/
inductive LsV (K : PySem.W.Frag) (H : Hp) : V → List V → Prop where
  | lst {a : Addr} {xs : List V} (e : H a = some (.lst xs)) : LsV K H (.ref a) xs
  | tup {a : Addr} {xs : List V} (e : SqT K H a xs) : LsV K H (.ref a) xs
theorem LsV.same {K : PySem.W.Frag} {H H' : Hp} {v : V} {xs : List V} (h : LsV K H v xs) (s : Same H H') : LsV K H' v xs := by
  cases h with
  | lst e => exact .lst (s _ _ e)
  | tup e => exact .tup (s.seqT e)
theorem tyT {K : PySem.W.Frag} {H : Hp} {a : Addr} {xs : List V} (h : SqT K H a xs) : TyX K H (.ref a) (.type "tuple") := by
  rcases h with (h | ⟨o, h⟩) | ⟨o, its, n, h, c, _⟩
  · exact .base (.tup h)
  · exact .fTuple h
  · exact .kTuple h c
theorem LsV.seq {K : PySem.W.Frag} {H : Hp} {v : V} {xs : List V} (h : LsV K H v xs) : ∃ a, v = .ref a ∧ (SqL K H a xs ∨ SqT K H a xs) := by
  cases h with
  | lst e => exact ⟨_, rfl, .inl (.inl (.inl e))⟩
  | tup e => exact ⟨_, rfl, .inr e⟩
/-- a thing of no kind of listing, or a listing -/
inductive LsQ (K : PySem.W.Frag) (H : Hp) : V → Option (List V) → Prop where
  | no {v : V} {n : String} (k : Kd H v n) (h : n ≠ "list" ∧ n ≠ "tuple") : LsQ K H v none
  | yes {v : V} {xs : List V} (h : LsV K H v xs) : LsQ K H v (some xs)
theorem LsQ.same {K : PySem.W.Frag} {H H' : Hp} {v : V} {o : Option (List V)} (h : LsQ K H v o) (s : Same H H') : LsQ K H' v o := by
  cases h with
  | no k e => exact .no (k.same s) e
  | yes h => exact .yes (h.same s)
def isIndex : V → Int → Bool
  | .int i, n => if 0 ≤ i then decide (i < n) else false
  | _, _ => false
def spIndex : Sp := fun vs H Q _ => ∃ (v : V) (n : String) (m : Int), vs = [v, .int m] ∧ Kd H v n ∧ Q (.bl (isIndex v m)) H
def spListing (K : PySem.W.Frag) : Sp := fun vs H Q _ => ∃ (v : V) (o : Option (List V)), vs = [v] ∧ LsQ K H v o ∧ ∀ H', Same H H' → Q (.bl o.isSome) H'
section
variable {P : Program} {w : World} {K : PySem.W.Frag} {mg : Str → Option Value} {base : Heap}
theorem scIndex : FnScope ["value", "many"] ["value", "many"] (defScope sIndex) := ⟨rfl, rfl, rfl, by decide +kernel, rfl, by decide +kernel, by decide +kernel⟩
theorem ok_index {f fC : Addr} {fd fdC : FuncData} (F : Fun K "is_index" "is_index" sIndex f fd) (T : MTxt K mg) (FC : Fun K "is_count" "is_count" sCount fC fdC) (bC : Binds K fdC ["value"] []) (gC : mg "is_count" = some (.ref fC)) :
    FnOk P w K mg base CX0 2 f fd ["value", "many"] spIndex := by
  have GC : FnOk P w K mg base CX0 1 fC fdC ["value"] spCount := ok_count FC T
  refine F.ok scIndex (fun vs H Q E h => ?_) (fun cdv A outer s H vs Q E hr h => ?_)
  · obtain ⟨v, n, m, rfl, _⟩ := h
    rfl
  · obtain ⟨v, n, m, rfl, hk, k⟩ := h
    refine ⟨_, pss_one (ps_ret (pe_and (pe_call GC hr rfl gC FC.kp bC .nil pass0 (pa_cons (pv 0) pa_nil)) (pe_one (pe_cmpR op_lt (pv 0) (pv 1) (nomark _))))), ?_⟩
    refine ⟨_, rfl, v, n, rfl, hk, _, rfl, ite2 (fun h1 => ?_) (fun h1 => ?_)⟩
    · cases v with
      | int i =>
        have g : 0 ≤ i := of_decide_eq_true h1
        have e : isIndex (.int i) m = decide (i < m) := if_pos g
        rw [e] at k
        exact ⟨_, rfl, _, rfl, _, _, rfl, rfl, k⟩
      | _ => exact nomatch (show false = true from h1)
    · have e : isIndex v m = false := by
        cases v with
        | int i => exact if_neg fun q => h1 (decide_eq_true q)
        | _ => rfl
      rw [e] at k
      exact k
theorem scListing : FnScope ["value"] ["value"] (defScope sListing) := ⟨rfl, rfl, rfl, by decide +kernel, rfl, by decide +kernel, by decide +kernel⟩
structure LTxt (mg : Str → Option Value) : Prop where
  list : mg "list" = none
  set : mg "set" = none
theorem ok_listing {f : Addr} {fd : FuncData} (F : Fun K "is_listing" "is_listing" sListing f fd) (T : MTxt K mg) (TL : LTxt mg) : FnOk P w K mg base CX0 1 f fd ["value"] (spListing K) := by
  refine F.ok scListing (fun vs H Q E h => ?_) (fun cdv A outer s H vs Q E hr h => ?_)
  · obtain ⟨v, o, rfl, _⟩ := h
    rfl
  · obtain ⟨v, o, rfl, hk, k⟩ := h
    refine ⟨_, pss_one (ps_ret (pe_callB (id := "isinstance") (r := rIsiT K) call_isiT (by rfl) T.isi (by decide +kernel) (pa_cons (pv 0) (pa_cons (pe_tup (pa_cons (pe_bltn (v := .ty "list") (by rfl) TL.list (by decide +kernel) rfl)
      (pa_cons (pe_bltn (v := .ty "tuple") (by rfl) T.tup (by decide +kernel) rfl) pa_nil))) pa_nil)))), ?_⟩
    refine ⟨v, rfl, (by show 2 ≤ sizeLine; decide), fun p hp => ⟨v, p, [.ty "list", .ty "tuple"], ?_⟩⟩
    have s1 : Same H (upd H p (.tup [.ty "list", .ty "tuple"])) := Same.new hp
    have hk1 := hk.same s1 (K := K)
    have cl : Paired ClsV [.ty "list", .ty "tuple"] [.type "list", .type "tuple"] := .cons (.ty _) (.cons (.ty _) .nil)
    cases hk1 with
    | yes h =>
      cases h with
      | lst e => exact ⟨_, _, true, rfl, upd_same, cl, (Kd.lst e).ty, kitAny_cons (b := true) (kit_ty (by decide +kernel)) (fun q => nomatch q) (fun _ => rfl), k _ s1⟩
      | tup e => exact ⟨_, _, true, rfl, upd_same, cl, tyT e, kitAny_cons (b := false) (kit_ty (by decide +kernel)) (fun _ => kitAny_cons (b := true) (kit_ty (by decide +kernel)) (fun q => nomatch q) (fun _ => rfl)) (fun q => nomatch q), k _ s1⟩
    | no kd ne =>
      refine ⟨_, _, false, rfl, upd_same, cl, kd.ty, kitAny_cons (b := false) (kit_ty ?_) (fun _ => kitAny_cons (b := false) (kit_ty ?_) (fun _ => kitAny_nil) (fun q => nomatch q)) (fun q => nomatch q), k _ s1⟩
      · cases kd <;> first | decide +kernel | exact absurd rfl ne.1 | exact absurd rfl ne.2
      · cases kd <;> first | decide +kernel | exact absurd rfl ne.1 | exact absurd rfl ne.2
end

/-! ### names, rows among rows -/
def areNames (xs : List V) (m : Int) : Bool := if (xs.length : Int) ≤ m then (if xs.all isName = true then decide (xs.Nodup) else false) else false
theorem strs_of : ∀ {xs : List V}, xs.all isName = true → ∃ ys : List Str, xs = ys.map V.str
  | [], _ => ⟨[], rfl⟩
  | x :: xs, h => by
    rw [List.all_cons, Bool.and_eq_true] at h
    obtain ⟨ys, rfl⟩ := strs_of h.2
    cases x with
    | str z => exact ⟨z :: ys, rfl⟩
    | _ => exact nomatch (show false = true from h.1)
theorem cntS_two {ys : List Str} (h : ys.length ≤ 2) : decide ((V.int (cntS ys ys.length : Nat)) = V.int (ys.length : Nat)) = decide ((ys.map V.str).Nodup) := by
  match ys, h with
  | [], _ => rfl
  | [x], _ => exact (decide_eq_true (by simp [cntS])).trans (decide_eq_true (by simp)).symm
  | [x, y], _ =>
    by_cases e : x = y
    · subst e
      exact (decide_eq_false (by simp [cntS])).trans (decide_eq_false (by simp)).symm
    · have e2 : (x == y) = false := beq_eq_false_iff_ne.mpr e
      exact (decide_eq_true (by simp [cntS, e2])).trans (decide_eq_true (by simp [e])).symm
  | _ :: _ :: _ :: _, h => exact absurd h (by simp)
def namesOf (o : Option (List V)) (m : Int) : Bool := match o with
  | some xs => areNames xs m
  | none => false
def spNames (K : PySem.W.Frag) : Sp := fun vs H Q _ => ∃ (v : V) (m : Nat) (o : Option (List V)), vs = [v, .int m] ∧ m ≤ 2 ∧ LsQ K H v o ∧ (∀ xs, o = some xs → xs.length ≤ 1000 ∧ ∀ x ∈ xs, ∃ n, Kd H x n) ∧
  ∀ H', Same H H' → Q (.bl (namesOf o m)) H'
section
variable {P : Program} {w : World} {K : PySem.W.Frag} {mg : Str → Option Value} {base : Heap}
theorem scNames : FnScope ["value", "most", "name"] ["value", "most"] (defScope sNames) := ⟨rfl, rfl, rfl, by decide +kernel, rfl, by decide +kernel, by decide +kernel⟩
theorem ok_names {f fL fN : Addr} {fd fdL fdN : FuncData} (F : Fun K "are_names" "are_names" sNames f fd) (T : MTxt K mg) (TL : LTxt mg)
    (FL : Fun K "is_listing" "is_listing" sListing fL fdL) (bL : Binds K fdL ["value"] []) (gL : mg "is_listing" = some (.ref fL))
    (FN : Fun K "is_name" "is_name" sName fN fdN) (bN : Binds K fdN ["value"] []) (gN : mg "is_name" = some (.ref fN)) : FnOk P w K mg base CX0 2 f fd ["value", "most"] (spNames K) := by
  have GL : FnOk P w K mg base CX0 1 fL fdL ["value"] (spListing K) := ok_listing FL T TL
  have GN : FnOk P w K mg base CX0 1 fN fdN ["value"] spName := ok_name FN T
  refine F.ok scNames (fun vs H Q E h => ?_) (fun cdv A outer s H vs Q E hr h => ?_)
  · obtain ⟨v, m, o, rfl, _⟩ := h
    rfl
  · obtain ⟨v, m, o, rfl, hm, hk, hx, k⟩ := h
    refine ⟨_, pss_cons (ps_if (PW.pt (pw_or (pt_not (pt_val (pe_call GL hr rfl gL FL.kp bL .nil pass0 (pa_cons (pv 0) pa_nil))))
        (pw_or1 (pt_cmpR op_gt (pe_callB call_len_seq (by rfl) T.len PySem.boot_len (pa_cons (pv 0) pa_nil)) (pv 1) (nomark _)))))
        (pss_one (ps_ret pe_bl)) pss_nil)
      (pss_one (ps_ret (pe_and (pe_callB (cr_all rfl) (by rfl) T.all (by decide +kernel) (pa_cons (pe_lc (own := [("name", 2)]) (g := gName 2) (by rfl) scNames.nd (pi_either (pi_list (pv 0)) (pi_tup (pv 0))) (blkOk_by (own := [("name", 2)]) (N := ["value", "most", "name"]) (sc := defScope sNames) (by decide +kernel))
            (fun _ _ _ _ _ => pg_name (i := 2) scNames.nd rfl (Or.inl rfl)) (fun _ _ _ _ _ => pts_nil)
            (fun _ _ _ _ _ => pe_call GN hr rfl gN FN.kp bN .nil pass0 (pa_cons (pv 2) pa_nil))) pa_nil))
          (pe_one (pe_cmpR op_eq (pe_lenTx (by rfl) T.len (by rfl) TL.set (pv 0)) (pe_callB call_len_seq (by rfl) T.len PySem.boot_len (pa_cons (pv 0) pa_nil)) (nomark _)))))), ?_⟩
    refine ⟨_, rfl, v, o, rfl, hk, fun H1 s1 => ?_⟩
    cases hk with
    | no kd ne => exact ⟨_, rfl, iteT (k _ s1)⟩
    | @yes xs hl =>
      obtain ⟨len, kds⟩ := hx xs rfl
      obtain ⟨a, rfl, sq⟩ := (hl.same s1).seq
      refine ⟨_, rfl, iteF ⟨_, rfl, a, xs, rfl, sq, _, rfl, _, _, rfl, rfl, _, rfl, ?_⟩⟩
      refine ite2 (fun h2 => ?_) (fun h2 => ?_)
      · have g : ¬ (xs.length : Int) ≤ m := by
          have := of_decide_eq_true h2
          omega
        have e : areNames xs m = false := if_neg g
        have k2 : Q (.bl (areNames xs m)) H1 := k _ s1
        rw [e] at k2
        exact k2
      · have g : (xs.length : Int) ≤ m := by
          by_cases q : (xs.length : Int) ≤ m
          · exact q
          · exact absurd (decide_eq_true (by omega)) h2
        rcases sq with sq | sq
        · refine .inl ⟨_, rfl, a, rfl, ⟨xs, sq⟩, fun D hD => lc_it walk_list (fun i H' => Same H1 H' ∧ H' D = some (.lst (((xs.take i).map isName).map V.bl))) ⟨Same.new hD, upd_same⟩ (fun i H' _ e => e.1.seq sq) ?_ ?_⟩
          · rintro i y H' H'' hi ⟨s2, hD2⟩ ⟨rfl, hy⟩
            obtain ⟨n, ky⟩ := kds y (List.mem_of_getElem? hy)
            refine ⟨rfl, _, rfl, y, n, rfl, (ky.same s1).same s2, fun H3 s3 => ⟨_, s3 _ _ hD2, ?_, ?_⟩⟩
            · rw [List.length_map, List.length_map, List.length_take]
              exact Nat.lt_of_le_of_lt (Nat.le_trans (Nat.min_le_right _ _) len) (by decide)
            · refine ⟨fun b o e => ?_, ?_⟩
              · rw [upd_ne (ne_of_none e hD)]
                exact s3 _ _ (s2 _ _ e)
              · rw [upd_same, List.take_add_one, hy, List.map_append, List.map_append]
                rfl
          · rintro H' ⟨s2, hD2⟩
            refine ⟨_, _, rfl, .inl (.inl hD2), ?_⟩
            have e : (((xs.take xs.length).map isName).all id) = xs.all isName := by
              rw [List.take_length, List.all_map]
              rfl
            have k2 : Q (.bl (areNames xs m)) H' := k _ (s1.trans s2)
            rw [e]
            refine ⟨_, rfl, ite2 (fun h3 => ?_) (fun h3 => ?_)⟩
            · obtain ⟨ys, rfl⟩ := strs_of h3
              have l2 : ys.length ≤ 2 := by
                rw [List.length_map] at g
                omega
              have e2 : areNames (ys.map V.str) m = decide ((ys.map V.str).Nodup) := (if_pos g).trans (if_pos h3)
              rw [e2, ← cntS_two l2] at k2
              refine ⟨_, rfl, a, ys, rfl, .inl (s2.seq sq), by omega, _, rfl, a, _, rfl, .inl (s2.seq sq), rfl, ?_⟩
              rw [List.length_map]
              exact k2
            · have e2 : areNames xs m = false := (if_pos g).trans (if_neg h3)
              rw [e2] at k2
              exact k2
        · refine .inr ⟨_, rfl, a, rfl, ⟨xs, sq⟩, fun D hD => lc_it walk_tup (fun i H' => Same H1 H' ∧ H' D = some (.lst (((xs.take i).map isName).map V.bl))) ⟨Same.new hD, upd_same⟩ (fun i H' _ e => e.1.seqT sq) ?_ ?_⟩
          · rintro i y H' H'' hi ⟨s2, hD2⟩ ⟨rfl, hy⟩
            obtain ⟨n, ky⟩ := kds y (List.mem_of_getElem? hy)
            refine ⟨rfl, _, rfl, y, n, rfl, (ky.same s1).same s2, fun H3 s3 => ⟨_, s3 _ _ hD2, ?_, ?_⟩⟩
            · rw [List.length_map, List.length_map, List.length_take]
              exact Nat.lt_of_le_of_lt (Nat.le_trans (Nat.min_le_right _ _) len) (by decide)
            · refine ⟨fun b o e => ?_, ?_⟩
              · rw [upd_ne (ne_of_none e hD)]
                exact s3 _ _ (s2 _ _ e)
              · rw [upd_same, List.take_add_one, hy, List.map_append, List.map_append]
                rfl
          · rintro H' ⟨s2, hD2⟩
            refine ⟨_, _, rfl, .inl (.inl hD2), ?_⟩
            have e : (((xs.take xs.length).map isName).all id) = xs.all isName := by
              rw [List.take_length, List.all_map]
              rfl
            have k2 : Q (.bl (areNames xs m)) H' := k _ (s1.trans s2)
            rw [e]
            refine ⟨_, rfl, ite2 (fun h3 => ?_) (fun h3 => ?_)⟩
            · obtain ⟨ys, rfl⟩ := strs_of h3
              have l2 : ys.length ≤ 2 := by
                rw [List.length_map] at g
                omega
              have e2 : areNames (ys.map V.str) m = decide ((ys.map V.str).Nodup) := (if_pos g).trans (if_pos h3)
              rw [e2, ← cntS_two l2] at k2
              refine ⟨_, rfl, a, ys, rfl, .inr (s2.seqT sq), by omega, _, rfl, a, _, rfl, .inr (s2.seqT sq), rfl, ?_⟩
              rw [List.length_map]
              exact k2
            · have e2 : areNames xs m = false := (if_pos g).trans (if_neg h3)
              rw [e2] at k2
              exact k2
end
/-- a row that can stand among so many -/
def leM (m : Int) : V → Bool
  | .int i => decide (i ≤ m)
  | _ => false
def amongS (z : Str) (r : List V) (m : Int) : Bool := if z = "go" then r.all (leM m) else true
def amongL (xs : List V) (m : Int) : Bool := if rowL xs = true then (match xs with
  | .str z :: r => amongS z r m
  | _ => false) else false
def amongOf (H : Hp) (v : V) (m : Int) : Bool := match v with
  | .ref a => match H a with
    | some (.tup xs) => amongL xs m
    | _ => false
  | _ => false
def spAmong : Sp := fun vs H Q _ => ∃ (v : V) (m : Int), vs = [v, .int m] ∧ RowV H v ∧ ∀ H', Same H H' → Q (.bl (amongOf H v m)) H'
theorem amongOf_tup {H : Hp} {a : Addr} {xs : List V} {m : Int} (e : H a = some (.tup xs)) : amongOf H (.ref a) m = amongL xs m := by
  simp only [amongOf, e]
theorem amongOf_no {H : Hp} {v : V} {m : Int} (e : rowOf H v = false) : amongOf H v m = false := by
  unfold amongOf
  unfold rowOf at e
  split
  · split
    · rename_i a _ xs q
      simp only [q] at e
      show amongL xs m = false
      unfold amongL
      rw [e]
      rfl
    · rfl
  · rfl
section
variable {P : Program} {w : World} {K : PySem.W.Frag} {mg : Str → Option Value} {base : Heap}
theorem scAmong : FnScope ["value", "many", "goal"] ["value", "many"] (defScope sAmong) := ⟨rfl, rfl, rfl, by decide +kernel, rfl, by decide +kernel, by decide +kernel⟩
theorem ok_among {f fR : Addr} {fd fdR : FuncData} (F : Fun K "_is_row_among" "_is_row_among" sAmong f fd) (T : MTxt K mg) (FR : Fun K "is_row" "is_row" sRow fR fdR) (bR : Binds K fdR ["value"] []) (gR : mg "is_row" = some (.ref fR))
    (GR : FnOk P w K mg base CX0 2 fR fdR ["value"] spRow) : FnOk P w K mg base CX0 3 f fd ["value", "many"] spAmong := by
  refine F.ok scAmong (fun vs H Q E h => ?_) (fun cdv A outer s H vs Q E hr h => ?_)
  · obtain ⟨v, m, rfl, _⟩ := h
    rfl
  · obtain ⟨v, m, rfl, hv, k⟩ := h
    refine ⟨_, pss_cons (ps_if (pt_not (pt_val (pe_call GR hr rfl gR FR.kp bR .nil pass0 (pa_cons (pv 0) pa_nil)))) (pss_one (ps_ret pe_bl)) pss_nil)
      (pss_one (ps_ret (pe_or (pe_cmpR op_ne (pe_ix ix_tup (pv 0) pe_int (fun _ _ => rfl)) pe_str (nomark _))
        (pe_one (pe_callB (cr_all rfl) (by rfl) T.all (by decide +kernel) (pa_cons (pe_lc (own := [("goal", 2)]) (g := gName 2) (by rfl) scAmong.nd (pi_tup (pe_slice sl_tup (pv 0) (po_some pe_int) po_none)) (blkOk_by (own := [("goal", 2)]) (N := ["value", "many", "goal"]) (sc := defScope sAmong) (by decide +kernel))
            (fun _ _ _ _ _ => pg_name (i := 2) scAmong.nd rfl (Or.inl rfl)) (fun _ _ _ _ _ => pts_nil)
            (fun _ _ _ _ _ => pe_cmpR op_le (pv 2) (pv 1) (nomark _))) pa_nil)))))), ?_⟩
    refine ⟨_, rfl, v, rfl, hv, fun H1 s1 => ⟨_, rfl, ?_⟩⟩
    cases hb : rowOf H v with
    | false =>
      have k2 := k _ s1
      rw [amongOf_no hb] at k2
      exact iteT k2
    | true =>
      refine iteF ?_
      rcases hv with ⟨n, kd, ne⟩ | ⟨a, xs, rfl, ha, hl, hx⟩
      · rw [rowOf_no kd ne] at hb
        cases hb
      · rw [rowOf_tup ha] at hb
        rw [amongOf_tup ha] at k
        match xs, hb, ha, hl, k with
        | .str z :: r, hb, ha, hl, k =>
          have e0 : amongL (.str z :: r) m = amongS z r m := if_pos hb
          rw [e0] at k
          have ha1 : H1 a = some (.tup (.str z :: r)) := s1 _ _ ha
          have sa : SqT K H1 a (.str z :: r) := .inl (.inl ha1)
          have hlr : r.length ≤ 999 := by
            have : (V.str z :: r).length = r.length + 1 := rfl
            omega
          refine ⟨_, rfl, a, _, 0, .str z, rfl, rfl, sa, at0 _ _, rfl, _, rfl, ite2 (fun h1 => ?_) (fun h1 => ?_)⟩
          · have g : ¬ z = "go" := fun q => by
              rw [q] at h1
              cases h1
            have e : amongS z r m = true := if_neg g
            rw [e] at k
            exact k _ s1
          · have g : z = "go" := by
              by_cases q : z = "go"
              · exact q
              · have q2 : ¬ V.str z = V.str "go" := fun y => q (by injection y)
                rw [decide_eq_false q2] at h1
                exact absurd rfl h1
            have e : amongS z r m = r.all (leM m) := if_pos g
            rw [e] at k
            have hc : r.all isCount = true := by
              have hb2 : rowS z r = true := hb
              unfold rowS at hb2
              rw [if_pos g] at hb2
              split at hb2
              · split at hb2
                · exact hb2
                · cases hb2
              · cases hb2
            refine ⟨_, rfl, _, rfl, a, _, rfl, sa, cut1_not _ _, fun p hp => ?_⟩
            rw [cut1]
            have s2 : Same H1 (upd H1 p (.tup r)) := Same.new hp
            have sr : SqT K (upd H1 p (.tup r)) p r := .inl (.inl upd_same)
            refine ⟨p, rfl, ⟨_, sr⟩, fun D hD => lc_it walk_tup (fun i H' => H' = upd (upd H1 p (.tup r)) D (.lst (((r.take i).map (leM m)).map V.bl)))
              rfl (fun i H' _ e => by rw [e]; exact .inl (.inl ((Same.new hD) _ _ upd_same))) ?_ ?_⟩
            · rintro i y H' H'' hi rfl ⟨rfl, hy⟩
              have cy := List.all_eq_true.mp hc y (List.mem_of_getElem? hy)
              match y, cy, hy with
              | .int j, _, hy =>
                refine ⟨rfl, _, rfl, _, rfl, _, _, rfl, rfl, _, upd_same, ?_, ?_⟩
                · rw [List.length_map, List.length_map, List.length_take]
                  exact Nat.lt_of_le_of_lt (Nat.le_trans (Nat.min_le_right _ _) hlr) (by decide)
                · rw [upd_upd, List.take_add_one, hy, List.map_append, List.map_append]
                  rfl
            · rintro H' rfl
              refine ⟨_, _, rfl, .inl (.inl upd_same), ?_⟩
              have e : r.all (leM m) = (((r.take r.length).map (leM m)).all id) := by
                rw [List.take_length, List.all_map]
                rfl
              rw [← e]
              exact k _ (s1.trans (s2.trans (Same.new hD)))
end
abbrev sHInit : Stmt := inClass (top 9) 0
/-- self.f = v, self a new exception -/
def spInitE (K : PySem.W.Frag) (f : Str) : Sp := fun vs H Q _ => ∃ (a C : Addr) (v : V), vs = [.ref a, v] ∧ ExvC K C ∧ PySem.W.findIn K (.ref C) f = some none ∧ H a = some (exo a C none) ∧
  ∀ dx, H dx = none → dx ≠ a → Q .non (upd (upd H dx (exd dx [(f, v)])) a (exo a C (some dx)))
section
variable {P : Program} {w : World} {K : PySem.W.Frag} {mg : Str → Option Value} {base : Heap}
theorem scH : FnScope ["self", "value"] ["self", "value"] (defScope sHInit) := ⟨rfl, rfl, rfl, by decide +kernel, rfl, by decide +kernel, by decide +kernel⟩
theorem ok_hinit {f : Addr} {fd : FuncData} (F : Fun K "__init__" "HandleError.__init__" sHInit f fd) : FnOk P w K mg base CX0 1 f fd ["self", "value"] (spInitE K "value") := by
  refine F.ok scH (fun vs H Q E h => ?_) (fun cdv A outer s H vs Q E hr h => ?_)
  · obtain ⟨a, C, v, rfl, _⟩ := h
    rfl
  · obtain ⟨a, C, v, rfl, T, hno, ea, k⟩ := h
    refine ⟨_, pss_one (ps_stx (pv 0) (pv 1)), ?_⟩
    exact ⟨_, rfl, _, rfl, a, C, rfl, T, hno, ea, fun dx n ne => k dx n ne⟩
end

abbrev sSInit : Stmt := inClass (top 32) 0
/-! ### the errors that the package raises -/
structure ErrC (K : PySem.W.Frag) (mg : Str → Option Value) (x : Str) (C fI : Addr) : Prop where
  g : mg x = some (.ref C)
  ox : OexC K C
  ev : ExvC K C
  i : PySem.W.findIn K (.ref C) "__init__" = some (some (.ref fI))
  t : PySem.W.typeIn K (.ref fI) = some (.type "function")
  no : PySem.W.findIn K (.ref C) "value" = some none
/-- an error of C with this value is let out -/
def Bad (E : XK) (H : Hp) (C : Addr) (v : V) : Prop := ∀ d H', Same H H' → H' d = some (.xd [("value", v)]) → E (.ref C) (some d) H'
theorem Bad.imp {E : XK} {H H' : Hp} {C : Addr} {v : V} (b : Bad E H C v) (s : Same H H') : Bad E H' C v := fun d H2 s2 e => b d H2 (s.trans s2) e
/-- what is asked ahead of a raise of C(v) -/
theorem raise_ok {K : PySem.W.Frag} {mg : Str → Option Value} {x : Str} {C fI : Addr} {H : Hp} {v : V} {E : XK} (e : ErrC K mg x C fI) (b : Bad E H C v) : ∀ a, H a = none →
    spInitE K "value" (.ref a :: ([v] ++ [])) (upd H a (exo a C none)) (fun u H2 => u = .non ∧ ∃ (d : Addr) (fs : List (Str × V)), H2 a = some (exo a C (some d)) ∧ H2 d = some (exd d fs) ∧ H d = none ∧ E (.ref C) (some d) (upd (del H2 a) d (.xd fs))) (fun _ _ _ => False) := by
  intro a ha
  refine ⟨a, C, v, rfl, e.ev, e.no, upd_same, fun dx n ne => ⟨rfl, dx, _, upd_same, ?_, ?_, b dx _ ?_ upd_same⟩⟩
  · rw [upd_ne ne, upd_same]
  · rw [upd_ne ne] at n
    exact n
  · intro b' u q
    have n1 : b' ≠ a := ne_of_none q ha
    have n2 : b' ≠ dx := fun z => by
      rw [z] at q
      rw [upd_ne ne, q] at n
      cases n
    rw [upd_ne n2, del_ne n1, upd_ne n1, upd_ne n2, upd_ne n1]
    exact q
def SameX (x : Addr) (H H' : Hp) : Prop := ∀ b u, b ≠ x → H b = some u → H' b = some u
theorem amongOf_same {H H' : Hp} {v : V} {m : Int} (h : RowV H v) (s : Same H H') : amongOf H' v m = amongOf H v m := by
  rcases h with ⟨n, kd, ne⟩ | ⟨a, xs, rfl, ha, _, _⟩
  · rw [amongOf_no (rowOf_no kd ne), amongOf_no (rowOf_no (kd.same s) ne)]
  · rw [amongOf_tup ha, amongOf_tup (s _ _ ha)]
theorem tupOf {K : PySem.W.Frag} {H : Hp} {v : V} {xs : List V} {Q : VK} (h : LsV K H v xs) (k : ∀ p H', Same H H' → SqT K H' p xs → Q (.ref p) H') :
    ∃ p ys, [v] = [V.ref p] ∧ ((SqL K H p ys ∧ ∀ l, H l = none → Q (.ref l) (upd H l (.tup ys))) ∨ (SqT K H p ys ∧ Q (.ref p) H)) := by
  cases h with
  | lst e => exact ⟨_, xs, rfl, .inl ⟨.inl (.inl e), fun l hl => k l _ (Same.new hl) (.inl (.inl upd_same))⟩⟩
  | tup e => exact ⟨_, xs, rfl, .inr ⟨e, k _ _ (Same.refl _) e⟩⟩
def rTupLs (K : PySem.W.Frag) : List V → Hp → VK → Prop := fun xs H Q => ∃ v ys, xs = [v] ∧ LsV K H v ys ∧ ∀ p H', Same H H' → SqT K H' p ys → Q (.ref p) H'
theorem call_tupleLs {X : Cx} : CallR X (.type "tuple") (rTupLs X.K) := by
  intro pins s σ H xs us Q I r h
  obtain ⟨v, ys, rfl, hl, k⟩ := h
  exact call_tuple_of pins s σ H _ us Q I r (tupOf hl k)
theorem sqT_ins {K : PySem.W.Frag} {H : Hp} {a x C dx : Addr} {xs : List V} {fs fs' : List (Str × V)} (hx : H x = some (.ins C dx fs)) (h : SqT K H a xs) : SqT K (upd H x (.ins C dx fs')) a xs := by
  rcases h with (h | ⟨o, h⟩) | h
  · refine .inl (.inl ((upd_ne fun q => ?_).trans h))
    rw [q, hx] at h
    cases h
  · refine .inl (.inr ⟨o, (upd_ne fun q => ?_).trans h⟩)
    rw [q, hx] at h
    cases h
  · exact .inr h
theorem lsV_ins {K : PySem.W.Frag} {H : Hp} {x C dx : Addr} {v : V} {xs : List V} {fs fs' : List (Str × V)} (hx : H x = some (.ins C dx fs)) (h : LsV K H v xs) : LsV K (upd H x (.ins C dx fs')) v xs := by
  cases h with
  | lst e =>
    refine .lst ((upd_ne fun q => ?_).trans e)
    rw [q, hx] at e
    cases e
  | tup e => exact .tup (sqT_ins hx e)
structure ITxt (K : PySem.W.Frag) (mg : Str → Option Value) (fI CN CR CB : Addr) : Prop where
  mostR : ∃ t, mg "MOST_ROWS" = some (.int 10 t)
  mostN : ∃ t, mg "MOST_NAMES" = some (.int 2 t)
  eN : ErrC K mg "InvalidName" CN fI
  eR : ErrC K mg "InvalidRow" CR fI
  eB : ErrC K mg "InvalidNumber" CB fI
def namesOk (o : Option (List V)) : Bool := namesOf o ((2 : Nat) : Int)
/-- a sort is made, or the error of the first that is wrong -/
def spSort (K : PySem.W.Frag) (C CN CR : Addr) : Sp := fun vs H Q E => ∃ (x dx : Addr) (nm : V) (n : String) (rows : V) (oR : Option (List V)) (own : V) (oO : Option (List V)), vs = [.ref x, nm, rows, own] ∧ H x = some (.ins C dx []) ∧
  Kd H nm n ∧ LsQ K H rows oR ∧ (∀ rs, oR = some rs → rs.length ≤ 1000 ∧ ∀ y ∈ rs, RowV H y) ∧ LsQ K H own oO ∧ (∀ xs, oO = some xs → xs.length ≤ 1000 ∧ ∀ x ∈ xs, ∃ n, Kd H x n) ∧
  (isName nm = false → Bad E H CN nm) ∧ (isName nm = true → (∀ rs, oR = some rs → ¬ (1 ≤ rs.length ∧ rs.length ≤ 10)) → Bad E H CR rows) ∧
  (isName nm = true → ∀ rs, oR = some rs → 1 ≤ rs.length → rs.length ≤ 10 →
    (∀ (i : Nat) (y : V), rs[i]? = some y → amongOf H y rs.length = false → (∀ (j : Nat) (z : V), j < i → rs[j]? = some z → amongOf H z rs.length = true) → Bad E H CR y) ∧
    ((∀ (j : Nat) (z : V), rs[j]? = some z → amongOf H z rs.length = true) → (namesOk oO = false → Bad E H CN own) ∧ ∀ os, oO = some os → areNames os 2 = true →
      ∀ H' pr po, SameX x H H' → SqT K H' pr rs → SqT K H' po os → H' x = some (.ins C dx [("_name", nm), ("_rows", .ref pr), ("_own", .ref po)]) → Q .non H'))
section
variable {P : Program} {w : World} {K : PySem.W.Frag} {mg : Str → Option Value} {base : Heap}
theorem scSInit : FnScope ["self", "name", "rows", "own", "row"] ["self", "name", "rows", "own"] (defScope sSInit) := ⟨rfl, rfl, rfl, by decide +kernel, rfl, by decide +kernel, by decide +kernel⟩
theorem ok_sinit {f C CN CR CB fI fL fN fA fM aE : Addr} {fd fdI fdL fdN fdA fdM : FuncData} (F : FunD K "__init__" "Sort.__init__" (defArgs sSInit) (defBody sSInit) (defScope sSInit) [] [("own", .ref aE)] f fd) (T : MTxt K mg) (TL : LTxt mg) (TI : ITxt K mg fI CN CR CB) (cl : Cls K C)
    (n1 : NoAttr K C "_name") (n2 : NoAttr K C "_rows") (n3 : NoAttr K C "_own")
    (FI : Fun K "__init__" "HandleError.__init__" sHInit fI fdI) (bI : Binds K fdI ["self", "value"] [])
    (FL : Fun K "is_listing" "is_listing" sListing fL fdL) (bL : Binds K fdL ["value"] []) (gL : mg "is_listing" = some (.ref fL))
    (FN : Fun K "is_name" "is_name" sName fN fdN) (bN : Binds K fdN ["value"] []) (gN : mg "is_name" = some (.ref fN))
    (FA : Fun K "_is_row_among" "_is_row_among" sAmong fA fdA) (bA : Binds K fdA ["value", "many"] []) (gA : mg "_is_row_among" = some (.ref fA)) (GA : FnOk P w K mg base CX0 3 fA fdA ["value", "many"] spAmong)
    (FM : Fun K "are_names" "are_names" sNames fM fdM) (bM : Binds K fdM ["value", "most"] []) (gM : mg "are_names" = some (.ref fM)) (GM : FnOk P w K mg base CX0 2 fM fdM ["value", "most"] (spNames K)) :
    FnOk P w K mg base (L2.CX P w) 4 f fd ["self", "name", "rows", "own"] (spSort K C CN CR) := by
  have GL : FnOk P w K mg base CX0 1 fL fdL ["value"] (spListing K) := ok_listing FL T TL
  have GN : FnOk P w K mg base CX0 1 fN fdN ["value"] spName := ok_name FN T
  have GI : FnOk P w K mg base CX0 1 fI fdI ["self", "value"] (spInitE K "value") := ok_hinit FI
  refine F.ok scSInit (fun vs H Q E h => ?_) (fun cdv A outer s H vs Q E hr h => ?_)
  · obtain ⟨x, dx, nm, n, rows, oR, own, oO, rfl, _⟩ := h
    rfl
  · obtain ⟨x, dx, nm, n, rows, oR, own, oO, rfl, hx, hn, hR, hRs, hO, hOs, b1, b2, b3⟩ := h
    obtain ⟨tr, hMR⟩ := TI.mostR
    obtain ⟨tn, hMN⟩ := TI.mostN
    have hr1 := hr.mono (j := 1) (by decide)
    have hr2 := hr.mono (j := 2) (by decide)
    refine ⟨_, pss_cons (ps_if (pt_not (pt_val (pe_call GN hr1 rfl gN FN.kp bN .nil pass0 (pa_cons (pv 1) pa_nil))))
        (pss_one (ps_raise rfl (takes_of rfl rfl rfl rfl) (pmk_oex TI.eN.ox TI.eN.i TI.eN.t GI hr2 bI .nil pass0 rfl TI.eN.g (pa_cons (pv 1) pa_nil)))) pss_nil)
      (pss_cons (ps_if (PW.pt (pw_or (pt_not (pt_val (pe_call GL hr1 rfl gL FL.kp bL .nil pass0 (pa_cons (pv 2) pa_nil))))
          (pw_or1 (pt_not (pt_chain op_le op_le pe_int (pe_callB call_len_seq (by rfl) T.len PySem.boot_len (pa_cons (pv 2) pa_nil)) (pe_glob (v := .int 10) rfl hMR ⟨_, rfl⟩))))))
        (pss_one (ps_raise rfl (takes_of rfl rfl rfl rfl) (pmk_oex TI.eR.ox TI.eR.i TI.eR.t GI hr2 bI .nil pass0 rfl TI.eR.g (pa_cons (pv 2) pa_nil)))) pss_nil)
      (pss_cons (ps_for (passes_of rfl) rfl (pi_either (pi_list (pv 2)) (pi_tup (pv 2))) (pg_name (i := 4) scSInit.nd rfl (.inl rfl))
        (pss_one (ps_if (pt_not (pt_val (pe_call GA hr rfl gA FA.kp bA .nil pass0 (pa_cons (pv 4) (pa_cons (pe_callB call_len_seq (by rfl) T.len PySem.boot_len (pa_cons (pv 2) pa_nil)) pa_nil)))))
          (pss_one (ps_raise rfl (takes_of rfl rfl rfl rfl) (pmk_oex TI.eR.ox TI.eR.i TI.eR.t GI hr2 bI .nil pass0 rfl TI.eR.g (pa_cons (pv 4) pa_nil)))) pss_nil)))
      (pss_cons (ps_if (pt_not (pt_val (pe_call GM hr2 rfl gM FM.kp bM .nil pass0 (pa_cons (pv 3) (pa_cons (pe_glob (v := .int 2) rfl hMN ⟨_, rfl⟩) pa_nil)))))
        (pss_one (ps_raise rfl (takes_of rfl rfl rfl rfl) (pmk_oex TI.eN.ox TI.eN.i TI.eN.t GI hr2 bI .nil pass0 rfl TI.eN.g (pa_cons (pv 3) pa_nil)))) pss_nil)
      (pss_cons (ps_fld (pv 0) (pv 1) (by rfl))
      (pss_cons (ps_fld (pv 0) (pe_callTy call_tupleLs (by rfl) T.tup (by decide +kernel) (pa_cons (pv 2) pa_nil)) (by rfl))
      (pss_one (ps_fld (pv 0) (pe_callTy call_tupleLs (by rfl) T.tup (by decide +kernel) (pa_cons (pv 3) pa_nil)) (by rfl)))))))), ?_⟩
    refine ⟨_, rfl, nm, n, rfl, hn, fun H1 s1 => ⟨_, rfl, ?_⟩⟩
    cases hb : isName nm with
    | false => exact iteT ⟨nm, rfl, (show 1 ≤ 1000 by decide), raise_ok TI.eN ((b1 hb).imp s1)⟩
    | true =>
      refine iteF ⟨_, rfl, rows, oR, rfl, hR.same s1, fun H2 s2 => ?_⟩
      have s12 := s1.trans s2
      cases hR with
      | no kd ne => exact ⟨_, rfl, iteT ⟨rows, rfl, (show 1 ≤ 1000 by decide), raise_ok TI.eR ((b2 hb fun rs q => nomatch q).imp s12)⟩⟩
      | @yes rs hl =>
        obtain ⟨a, rfl, sq⟩ := hl.seq
        have sq2 : SqL K H2 a rs ∨ SqT K H2 a rs := sq.imp s12.seq s12.seqT
        refine ⟨_, rfl, iteF ⟨_, rfl, a, rs, rfl, sq2, _, _, rfl, rfl, _, rfl, ite2 (fun h1 => ?_) (fun h1 => ?_)⟩⟩
        · refine ⟨_, _, rfl, rfl, _, rfl, ite2 (fun h2 => ?_) (fun h2 => ?_)⟩
          · have g : ¬ rs.length ≤ 10 := fun q => by
              rw [decide_eq_true (show ((rs.length : Nat) : Int) ≤ 10 by omega)] at h2
              cases h2
            exact ⟨.ref a, rfl, (show 1 ≤ 1000 by decide), raise_ok TI.eR ((b2 hb fun rs' q z => by cases q; exact g z.2).imp s12)⟩
          · have g1 : 1 ≤ rs.length := by
              have := of_decide_eq_true h1
              omega
            have g2 : rs.length ≤ 10 := by
              by_cases q : rs.length ≤ 10
              · exact q
              · rw [decide_eq_false (show ¬ ((rs.length : Nat) : Int) ≤ 10 by omega)] at h2
                exact absurd rfl h2
            obtain ⟨bad, good⟩ := b3 hb rs rfl g1 g2
            have rows := (hRs rs rfl).2
            rcases sq with sq | sq
            · refine .inl ⟨_, rfl, a, rfl, ⟨rs, s12.seq sq⟩, for_it walk_list (fun i σ H' => (∃ u4, σ = [some (.ref x), some nm, some (.ref a), some own, u4]) ∧ Same H H' ∧ ∀ (j : Nat) (z : V), j < i → rs[j]? = some z → amongOf H z rs.length = true)
                ⟨⟨_, rfl⟩, s12, fun j z hj => absurd hj (Nat.not_lt_zero _)⟩ (fun i σ H' _ e => e.2.1.seq sq) ?_ ?_⟩
              · rintro i y σ H' H'' hi ⟨⟨u4, rfl⟩, s3, ok⟩ ⟨rfl, hy⟩
                have ry := rows y (List.mem_of_getElem? hy)
                refine ⟨y, rfl, _, rfl, a, rs, rfl, .inl (s3.seq sq), y, _, rfl, ry.same s3, fun H4 s4 => ⟨_, rfl, ?_⟩⟩
                rw [amongOf_same ry s3]
                cases he : amongOf H y rs.length with
                | false => exact iteT ⟨y, rfl, (show 1 ≤ 1000 by decide), raise_ok TI.eR ((bad i y hy he ok).imp (s3.trans s4))⟩
                | true =>
                  refine iteF ⟨⟨_, rfl⟩, s3.trans s4, fun j z hj hz => ?_⟩
                  rcases Nat.lt_succ_iff_lt_or_eq.mp hj with q | q
                  · exact ok j z q hz
                  · rw [q, hy] at hz
                    cases hz
                    exact he
              · rintro σ H' ⟨⟨u4, rfl⟩, s3, ok⟩
                obtain ⟨g3, g4⟩ := good fun j z hz => ok j z (List.getElem?_eq_some_iff.mp hz).1 hz
                refine ⟨own, rfl, own, 2, oO, rfl, (by decide), hO.same s3, fun xs q => ⟨(hOs xs q).1, fun w hw => ?_⟩, fun H5 s5 => ⟨_, rfl, ?_⟩⟩
                · obtain ⟨n', k'⟩ := (hOs xs q).2 w hw
                  exact ⟨n', k'.same s3⟩
                have s35 := s3.trans s5
                cases hq : namesOf oO ((2 : Nat) : Int) with
                | false => exact iteT ⟨own, rfl, (show 1 ≤ 1000 by decide), raise_ok TI.eN ((g3 hq).imp s35)⟩
                | true =>
                  refine iteF ?_
                  cases hO with
                  | no kd ne => cases hq
                  | @yes os ho =>
                    have x5 : H5 x = some (.ins C dx []) := s35 _ _ hx
                    refine ⟨nm, rfl, _, rfl, x, C, dx, [], rfl, x5, cl, n1, (by decide), ?_⟩
                    refine ⟨.ref a, rfl, .ref a, rs, rfl, lsV_ins x5 (hl.same s35), fun pr H6 s6 t6 => ?_⟩
                    have x6 : H6 x = some (.ins C dx [("_name", nm)]) := s6 _ _ upd_same
                    refine ⟨_, rfl, x, C, dx, _, rfl, x6, cl, n2, (show 1 < 1000 by decide), ?_⟩
                    refine ⟨own, rfl, own, os, rfl, lsV_ins x6 ((lsV_ins x5 (ho.same s35)).same s6), fun po H7 s7 t7 => ?_⟩
                    have x7 : H7 x = some (.ins C dx [("_name", nm), ("_rows", .ref pr)]) := s7 _ _ upd_same
                    refine ⟨_, rfl, x, C, dx, _, rfl, x7, cl, n3, (show 2 < 1000 by decide), ?_⟩
                    refine g4 os rfl hq _ pr po ?_ (sqT_ins x7 (s7.seqT (sqT_ins x6 t6))) (sqT_ins x7 t7) upd_same
                    intro b u hb e
                    rw [upd_ne hb]
                    refine s7 _ _ ?_
                    rw [upd_ne hb]
                    refine s6 _ _ ?_
                    rw [upd_ne hb]
                    exact s35 _ _ e
            · refine .inr ⟨_, rfl, a, rfl, ⟨rs, s12.seqT sq⟩, for_it walk_tup (fun i σ H' => (∃ u4, σ = [some (.ref x), some nm, some (.ref a), some own, u4]) ∧ Same H H' ∧ ∀ (j : Nat) (z : V), j < i → rs[j]? = some z → amongOf H z rs.length = true)
                ⟨⟨_, rfl⟩, s12, fun j z hj => absurd hj (Nat.not_lt_zero _)⟩ (fun i σ H' _ e => e.2.1.seqT sq) ?_ ?_⟩
              · rintro i y σ H' H'' hi ⟨⟨u4, rfl⟩, s3, ok⟩ ⟨rfl, hy⟩
                have ry := rows y (List.mem_of_getElem? hy)
                refine ⟨y, rfl, _, rfl, a, rs, rfl, .inr (s3.seqT sq), y, _, rfl, ry.same s3, fun H4 s4 => ⟨_, rfl, ?_⟩⟩
                rw [amongOf_same ry s3]
                cases he : amongOf H y rs.length with
                | false => exact iteT ⟨y, rfl, (show 1 ≤ 1000 by decide), raise_ok TI.eR ((bad i y hy he ok).imp (s3.trans s4))⟩
                | true =>
                  refine iteF ⟨⟨_, rfl⟩, s3.trans s4, fun j z hj hz => ?_⟩
                  rcases Nat.lt_succ_iff_lt_or_eq.mp hj with q | q
                  · exact ok j z q hz
                  · rw [q, hy] at hz
                    cases hz
                    exact he
              · rintro σ H' ⟨⟨u4, rfl⟩, s3, ok⟩
                obtain ⟨g3, g4⟩ := good fun j z hz => ok j z (List.getElem?_eq_some_iff.mp hz).1 hz
                refine ⟨own, rfl, own, 2, oO, rfl, (by decide), hO.same s3, fun xs q => ⟨(hOs xs q).1, fun w hw => ?_⟩, fun H5 s5 => ⟨_, rfl, ?_⟩⟩
                · obtain ⟨n', k'⟩ := (hOs xs q).2 w hw
                  exact ⟨n', k'.same s3⟩
                have s35 := s3.trans s5
                cases hq : namesOf oO ((2 : Nat) : Int) with
                | false => exact iteT ⟨own, rfl, (show 1 ≤ 1000 by decide), raise_ok TI.eN ((g3 hq).imp s35)⟩
                | true =>
                  refine iteF ?_
                  cases hO with
                  | no kd ne => cases hq
                  | @yes os ho =>
                    have x5 : H5 x = some (.ins C dx []) := s35 _ _ hx
                    refine ⟨nm, rfl, _, rfl, x, C, dx, [], rfl, x5, cl, n1, (by decide), ?_⟩
                    refine ⟨.ref a, rfl, .ref a, rs, rfl, lsV_ins x5 (hl.same s35), fun pr H6 s6 t6 => ?_⟩
                    have x6 : H6 x = some (.ins C dx [("_name", nm)]) := s6 _ _ upd_same
                    refine ⟨_, rfl, x, C, dx, _, rfl, x6, cl, n2, (show 1 < 1000 by decide), ?_⟩
                    refine ⟨own, rfl, own, os, rfl, lsV_ins x6 ((lsV_ins x5 (ho.same s35)).same s6), fun po H7 s7 t7 => ?_⟩
                    have x7 : H7 x = some (.ins C dx [("_name", nm), ("_rows", .ref pr)]) := s7 _ _ upd_same
                    refine ⟨_, rfl, x, C, dx, _, rfl, x7, cl, n3, (show 2 < 1000 by decide), ?_⟩
                    refine g4 os rfl hq _ pr po ?_ (sqT_ins x7 (s7.seqT (sqT_ins x6 t6))) (sqT_ins x7 t7) upd_same
                    intro b u hb e
                    rw [upd_ne hb]
                    refine s7 _ _ ?_
                    rw [upd_ne hb]
                    refine s6 _ _ ?_
                    rw [upd_ne hb]
                    exact s35 _ _ e
        · have g : ¬ 1 ≤ rs.length := fun q => h1 (decide_eq_true (by omega))
          exact ⟨_, rfl, iteT ⟨.ref a, rfl, (show 1 ≤ 1000 by decide), raise_ok TI.eR ((b2 hb fun rs' q z => by cases q; exact g z.1).imp s12)⟩⟩
end
/-! ### a sort as it stands -/
/-- o.f, as a def that is called -/
def spGet (K : PySem.W.Frag) (f : Str) : Sp := fun vs H Q _ => ∃ (x C dx : Addr) (fs : List (Str × V)) (v : V), vs = [.ref x] ∧ H x = some (.ins C dx fs) ∧ Cls K C ∧ NoAttr K C f ∧ fs.lookup f = some v ∧ Q v H
abbrev sGetname : Stmt := inClass (top 32) 1
section
variable {P : Program} {w : World} {K : PySem.W.Frag} {mg : Str → Option Value} {base : Heap}
theorem scGetname : FnScope ["self"] ["self"] (defScope sGetname) := ⟨rfl, rfl, rfl, by decide +kernel, rfl, by decide +kernel, by decide +kernel⟩
theorem ok_getname {f : Addr} {fd : FuncData} (F : Fun K "name" "Sort.name" sGetname f fd) : FnOk P w K mg base CX0 1 f fd ["self"] (spGet K "_name") := by
  refine F.ok scGetname (fun vs H Q E h => ?_) (fun cdv A outer s H vs Q E hr h => ?_)
  · obtain ⟨x, _, _, _, _, rfl, _⟩ := h
    rfl
  · obtain ⟨x, C, dx, fs, v, rfl, hx, cl, no, l, k⟩ := h
    exact ⟨_, pss_one (ps_ret (pe_fld (pv 0) (by rfl))), ⟨_, rfl, x, C, dx, fs, v, rfl, hx, cl, no, l, k⟩⟩
end
abbrev sGetrows : Stmt := inClass (top 32) 2
section
variable {P : Program} {w : World} {K : PySem.W.Frag} {mg : Str → Option Value} {base : Heap}
theorem scGetrows : FnScope ["self"] ["self"] (defScope sGetrows) := ⟨rfl, rfl, rfl, by decide +kernel, rfl, by decide +kernel, by decide +kernel⟩
theorem ok_getrows {f : Addr} {fd : FuncData} (F : Fun K "rows" "Sort.rows" sGetrows f fd) : FnOk P w K mg base CX0 1 f fd ["self"] (spGet K "_rows") := by
  refine F.ok scGetrows (fun vs H Q E h => ?_) (fun cdv A outer s H vs Q E hr h => ?_)
  · obtain ⟨x, _, _, _, _, rfl, _⟩ := h
    rfl
  · obtain ⟨x, C, dx, fs, v, rfl, hx, cl, no, l, k⟩ := h
    exact ⟨_, pss_one (ps_ret (pe_fld (pv 0) (by rfl))), ⟨_, rfl, x, C, dx, fs, v, rfl, hx, cl, no, l, k⟩⟩
end
abbrev sGetown : Stmt := inClass (top 32) 3
section
variable {P : Program} {w : World} {K : PySem.W.Frag} {mg : Str → Option Value} {base : Heap}
theorem scGetown : FnScope ["self"] ["self"] (defScope sGetown) := ⟨rfl, rfl, rfl, by decide +kernel, rfl, by decide +kernel, by decide +kernel⟩
theorem ok_getown {f : Addr} {fd : FuncData} (F : Fun K "own" "Sort.own" sGetown f fd) : FnOk P w K mg base CX0 1 f fd ["self"] (spGet K "_own") := by
  refine F.ok scGetown (fun vs H Q E h => ?_) (fun cdv A outer s H vs Q E hr h => ?_)
  · obtain ⟨x, _, _, _, _, rfl, _⟩ := h
    rfl
  · obtain ⟨x, C, dx, fs, v, rfl, hx, cl, no, l, k⟩ := h
    exact ⟨_, pss_one (ps_ret (pe_fld (pv 0) (by rfl))), ⟨_, rfl, x, C, dx, fs, v, rfl, hx, cl, no, l, k⟩⟩
end
abbrev sItem : Stmt := inClass (top 32) 4
abbrev sLen : Stmt := inClass (top 32) 6
/-- a sort of this name, these rows and own variables -/
structure SortAt (K : PySem.W.Frag) (H : Hp) (C x dx : Addr) (nm : V) (pr po : Addr) (rs os : List V) : Prop where
  ins : H x = some (.ins C dx [("_name", nm), ("_rows", .ref pr), ("_own", .ref po)])
  rows : SqT K H pr rs
  own : SqT K H po os
theorem SortAt.same {K : PySem.W.Frag} {H H' : Hp} {C x dx : Addr} {nm : V} {pr po : Addr} {rs os : List V} (h : SortAt K H C x dx nm pr po rs os) (s : Same H H') : SortAt K H' C x dx nm pr po rs os := ⟨s _ _ h.ins, s.seqT h.rows, s.seqT h.own⟩
/-- the class of sorts, as its methods ask -/
structure SCls (K : PySem.W.Frag) (C : Addr) : Prop where
  cl : Cls K C
  n1 : NoAttr K C "_name"
  n2 : NoAttr K C "_rows"
  n3 : NoAttr K C "_own"
def spLen (K : PySem.W.Frag) (C : Addr) : Sp := fun vs H Q _ => ∃ x dx nm pr po rs os, vs = [.ref x] ∧ SortAt K H C x dx nm pr po rs os ∧ Q (.int (rs.length : Nat)) H
def spItem (K : PySem.W.Frag) (C CB : Addr) : Sp := fun vs H Q E => ∃ x dx nm pr po rs os, ∃ (v : V) (n : String), vs = [.ref x, v] ∧ SortAt K H C x dx nm pr po rs os ∧ Kd H v n ∧ (isIndex v (rs.length : Nat) = false → Bad E H CB v) ∧
  (∀ (i : Nat) (y : V), v = .int i → rs[i]? = some y → Q y H)
section
variable {P : Program} {w : World} {K : PySem.W.Frag} {mg : Str → Option Value} {base : Heap}
theorem scLen : FnScope ["self"] ["self"] (defScope sLen) := ⟨rfl, rfl, rfl, by decide +kernel, rfl, by decide +kernel, by decide +kernel⟩
theorem ok_len {f C : Addr} {fd : FuncData} (F : Fun K "__len__" "Sort.__len__" sLen f fd) (T : MTxt K mg) (S : SCls K C) : FnOk P w K mg base CX0 1 f fd ["self"] (spLen K C) := by
  refine F.ok scLen (fun vs H Q E h => ?_) (fun cdv A outer s H vs Q E hr h => ?_)
  · obtain ⟨x, _, _, _, _, _, _, rfl, _⟩ := h
    rfl
  · obtain ⟨x, dx, nm, pr, po, rs, os, rfl, hs, k⟩ := h
    exact ⟨_, pss_one (ps_ret (pe_callB call_len_seq (by rfl) T.len PySem.boot_len (pa_cons (pe_fld (pv 0) (by rfl)) pa_nil))), ⟨_, rfl, x, C, dx, _, .ref pr, rfl, hs.ins, S.cl, S.n2, rfl, pr, rs, rfl, .inr hs.rows, k⟩⟩
theorem scItem : FnScope ["self", "at"] ["self", "at"] (defScope sItem) := ⟨rfl, rfl, rfl, by decide +kernel, rfl, by decide +kernel, by decide +kernel⟩
theorem ok_item {f C CN CR CB fI fX : Addr} {fd fdI fdX : FuncData} (F : Fun K "__getitem__" "Sort.__getitem__" sItem f fd) (T : MTxt K mg) (TI : ITxt K mg fI CN CR CB) (S : SCls K C)
    (FI : Fun K "__init__" "HandleError.__init__" sHInit fI fdI) (bI : Binds K fdI ["self", "value"] [])
    (FX : Fun K "is_index" "is_index" sIndex fX fdX) (bX : Binds K fdX ["value", "many"] []) (gX : mg "is_index" = some (.ref fX)) (GX : FnOk P w K mg base CX0 2 fX fdX ["value", "many"] spIndex) :
    FnOk P w K mg base (L2.CX P w) 3 f fd ["self", "at"] (spItem K C CB) := by
  have GI : FnOk P w K mg base CX0 1 fI fdI ["self", "value"] (spInitE K "value") := ok_hinit FI
  refine F.okX scItem (fun vs H Q E h => ?_) (fun cdv A outer s H vs Q E hr h => ?_)
  · obtain ⟨x, _, _, _, _, _, _, _, _, rfl, _⟩ := h
    rfl
  · obtain ⟨x, dx, nm, pr, po, rs, os, v, n, rfl, hs, hk, bad, k⟩ := h
    refine ⟨_, pss_cons (ps_if (pt_not (pt_val (pe_call GX hr rfl gX FX.kp bX .nil pass0 (pa_cons (pv 1) (pa_cons (pe_callB call_len_seq (by rfl) T.len PySem.boot_len (pa_cons (pe_fld (pv 0) (by rfl)) pa_nil)) pa_nil)))))
        (pss_one (ps_raise rfl (takes_of rfl rfl rfl rfl) (pmk_oex TI.eB.ox TI.eB.i TI.eB.t GI hr bI .nil pass0 rfl TI.eB.g (pa_cons (pv 1) pa_nil)))) pss_nil)
      (pss_one (ps_ret (pe_ix ix_tup (pe_fld (pv 0) (by rfl)) (pv 1) (fun _ _ => rfl)))), ?_⟩
    refine ⟨v, rfl, _, rfl, x, C, dx, _, .ref pr, rfl, hs.ins, S.cl, S.n2, rfl, pr, rs, rfl, .inr hs.rows, v, n, (rs.length : Nat), rfl, hk, _, rfl, ?_⟩
    cases hb : isIndex v (rs.length : Nat) with
    | false => exact iteT ⟨v, rfl, (show 1 ≤ 1000 by decide), raise_ok TI.eB (bad hb)⟩
    | true =>
      refine iteF ?_
      cases v with
      | int i =>
        have h0 : 0 ≤ i := by
          by_cases q : 0 ≤ i
          · exact q
          · have e : isIndex (.int i) (rs.length : Nat) = false := if_neg q
            rw [e] at hb
            cases hb
        have h1 : i < (rs.length : Nat) := by
          have e : isIndex (.int i) (rs.length : Nat) = decide (i < (rs.length : Nat)) := if_pos h0
          rw [e] at hb
          exact of_decide_eq_true hb
        obtain ⟨j, rfl⟩ := Int.eq_ofNat_of_zero_le h0
        have hj : j < rs.length := by omega
        have hy : rs[j]? = some rs[j] := List.getElem?_eq_getElem hj
        exact ⟨_, rfl, x, C, dx, _, .ref pr, rfl, hs.ins, S.cl, S.n2, rfl, _, rfl, pr, rs, _, rs[j], rfl, rfl, hs.rows, atI_nat (j := j) hy, k j _ rfl hy⟩
      | _ => exact nomatch (show false = true from hb)
end
/-! ### x in a tuple of data; a row as data -/
section
variable {X : Cx}
def rInT (K : PySem.W.Frag) : R2 := fun x y H Q => ∃ d ds, Dp K H x d ∧ Dp K H y (.tuple ds) ∧ SeqAt.shaped d = true ∧ SeqAt.shaped (.tuple ds) = true ∧ Q (.bl (ds.any fun z => PyData.eqv z d)) H
theorem op_inT (room : X.A.units + 65 < cLine) : OpR X (compareOp .In) (rInT X.K) := by
  intro pins s σ H x y v u Q I rx ry h
  obtain ⟨d, ds, dx, dy, sx, sy, q⟩ := h
  obtain ⟨_, rdx⟩ := Dp.reads I d x v dx rx
  obtain ⟨_, rdy⟩ := Dp.reads I (.tuple ds) y u dy ry
  exact SeqAt.in_tuple_reads rdy rdx (SeqAt.canLay_of_shaped sy) (SeqAt.canLay_of_shaped sx) (PyProof.Rows.room_in_shaped sx room) ⟨.bl _, H, I, rfl, q⟩
end
/-- x among the rows of the sort: no row, or data that is held against data -/
abbrev sHas : Stmt := inClass (top 32) 7
def spHas (K : PySem.W.Frag) (C : Addr) : Sp := fun vs H Q _ => ∃ x dx nm pr po rs os, ∃ (v : V), vs = [.ref x, v] ∧ SortAt K H C x dx nm pr po rs os ∧ RowV H v ∧
  (rowOf H v = false → ∀ H', Same H H' → Q (.bl false) H') ∧
  (rowOf H v = true → ∃ d ds, Dp K H v d ∧ Dp K H (.ref pr) (.tuple ds) ∧ SeqAt.shaped d = true ∧ SeqAt.shaped (.tuple ds) = true ∧ ∀ H', Same H H' → Q (.bl (ds.any fun z => PyData.eqv z d)) H')
section
variable {P : Program} {w : World} {K : PySem.W.Frag} {mg : Str → Option Value} {base : Heap}
theorem scHas : FnScope ["self", "x"] ["self", "x"] (defScope sHas) := ⟨rfl, rfl, rfl, by decide +kernel, rfl, by decide +kernel, by decide +kernel⟩
theorem ok_has {f C fR : Addr} {fd fdR : FuncData} (F : Fun K "__contains__" "Sort.__contains__" sHas f fd) (S : SCls K C) (FR : Fun K "is_row" "is_row" sRow fR fdR) (bR : Binds K fdR ["value"] []) (gR : mg "is_row" = some (.ref fR))
    (GR : FnOk P w K mg base CX0 2 fR fdR ["value"] spRow) : FnOk P w K mg base CX0 3 f fd ["self", "x"] (spHas K C) := by
  refine F.ok scHas (fun vs H Q E h => ?_) (fun cdv A outer s H vs Q E hr h => ?_)
  · obtain ⟨x, _, _, _, _, _, _, _, rfl, _⟩ := h
    rfl
  · obtain ⟨x, dx, nm, pr, po, rs, os, v, rfl, hs, hv, no, yes⟩ := h
    have room : (A.deeper (PyProof.Rows.envOfC "Sort.__contains__" (defScope sHas) s.heap.objs.size f cdv)).units + 65 < cLine := by
      have := hr.un
      omega
    refine ⟨_, pss_one (ps_ret (pe_and (pe_call GR (hr.mono (by decide)) rfl gR FR.kp bR .nil pass0 (pa_cons (pv 1) pa_nil)) (pe_one (pe_cmpR (op_inT room) (pv 1) (pe_fld (pv 0) (by rfl)) (by rfl))))), ?_⟩
    refine ⟨v, rfl, v, rfl, hv, fun H1 s1 => ⟨_, rfl, ?_⟩⟩
    cases hb : rowOf H v with
    | false => exact iteF (no hb _ s1)
    | true =>
      obtain ⟨d, ds, dv, dr, sv, sr, k⟩ := yes hb
      exact iteT ⟨v, rfl, _, rfl, x, C, dx, _, .ref pr, rfl, s1 _ _ hs.ins, S.cl, S.n2, rfl, d, ds, dp_same s1 d v dv, dp_same s1 _ _ dr, sv, sr, k _ s1⟩
end
abbrev sEq : Stmt := inClass (top 32) 8
/-- what isinstance(.., Sort) asks of the class -/
structure SIs (K : PySem.W.Frag) (mg : Str → Option Value) (C : Addr) : Prop where
  g : mg "Sort" = some (.ref C)
  ty : ∀ (H : Hp) (x dx : Addr) (fs : List (Str × V)), H x = some (.ins C dx fs) → TyX K H (.ref x) (.ref C)
  yes : PySem.W.kitOne K (.ref C) (.ref C) = some true
  tup : PySem.W.kitOne K (.type "tuple") (.ref C) = some false
/-- == of two sorts, or of a sort and a tuple -/
def spEq (K : PySem.W.Frag) (C : Addr) : Sp := fun vs H Q _ => ∃ x dx pr po rs os, ∃ (z : Str) (v : V), vs = [.ref x, v] ∧ SortAt K H C x dx (.str z) pr po rs os ∧
  ((∃ a ts, v = .ref a ∧ SqT K H a ts ∧ Q (.bl false) H) ∨ ∃ y dy qr qo rs' os', ∃ (z' : Str) (d d' e e' : PyData), v = .ref y ∧ SortAt K H C y dy (.str z') qr qo rs' os' ∧ Dp K H (.ref pr) d ∧ Dp K H (.ref qr) d' ∧ Dp K H (.ref po) e ∧ Dp K H (.ref qo) e' ∧
    SeqAt.shaped d = true ∧ SeqAt.shaped d' = true ∧ SeqAt.shaped e = true ∧ SeqAt.shaped e' = true ∧ Q (.bl (if z = z' then (if PyData.eqv d d' = true then PyData.eqv e e' else false) else false)) H)
section
variable {P : Program} {w : World} {K : PySem.W.Frag} {mg : Str → Option Value} {base : Heap}
theorem scEq : FnScope ["self", "other"] ["self", "other"] (defScope sEq) := ⟨rfl, rfl, rfl, by decide +kernel, rfl, by decide +kernel, by decide +kernel⟩
theorem ok_eq {f C : Addr} {fd : FuncData} (F : Fun K "__eq__" "Sort.__eq__" sEq f fd) (T : MTxt K mg) (S : SCls K C) (SI : SIs K mg C) : FnOk P w K mg base CX0 1 f fd ["self", "other"] (spEq K C) := by
  refine F.ok scEq (fun vs H Q E h => ?_) (fun cdv A outer s H vs Q E hr h => ?_)
  · obtain ⟨x, _, _, _, _, _, _, _, rfl, _⟩ := h
    rfl
  · obtain ⟨x, dx, pr, po, rs, os, z, v, rfl, hs, h⟩ := h
    refine ⟨_, pss_one (ps_ret (pe_and (pe_callB call_isi (by rfl) T.isi (by decide +kernel) (pa_cons (pv 1) (pa_cons (pe_glob (v := .ref C) rfl SI.g rfl) pa_nil)))
      (pe_and (pe_cmpR op_eq (pe_fld (pv 0) (by rfl)) (pe_fld (pv 1) (by rfl)) (nomark _))
      (pe_and (pe_cmpR (op_eqD hr.units) (pe_fld (pv 0) (by rfl)) (pe_fld (pv 1) (by rfl)) (by rfl))
      (pe_one (pe_cmpR (op_eqD hr.units) (pe_fld (pv 0) (by rfl)) (pe_fld (pv 1) (by rfl)) (by rfl))))))), ?_⟩
    rcases h with ⟨a, ts, rfl, ht, k⟩ | ⟨y, dy, qr, qo, rs', os', z', d, d', e, e', rfl, hs', h1, h2, h3, h4, s1, s2, s3, s4, k⟩
    · exact ⟨_, rfl, _, _, _, _, false, rfl, .own C, tyT ht, SI.tup, _, rfl, iteF k⟩
    · refine ⟨_, rfl, _, _, _, _, true, rfl, .own C, SI.ty _ _ _ _ hs'.ins, SI.yes, _, rfl, iteT ?_⟩
      refine ⟨_, rfl, x, C, dx, _, .str z, rfl, hs.ins, S.cl, S.n1, rfl, _, rfl, y, C, dy, _, .str z', rfl, hs'.ins, S.cl, S.n1, rfl, rfl, _, rfl, ite2 (fun g => ?_) (fun g => ?_)⟩
      · have g1 : z = z' := by
          have := of_decide_eq_true g
          injection this
        rw [if_pos g1] at k
        refine ⟨_, rfl, x, C, dx, _, .ref pr, rfl, hs.ins, S.cl, S.n2, rfl, _, rfl, y, C, dy, _, .ref qr, rfl, hs'.ins, S.cl, S.n2, rfl, d, d', h1, h2, s1, s2, _, rfl, ite2 (fun g2 => ?_) (fun g2 => ?_)⟩
        · rw [if_pos g2] at k
          exact ⟨_, rfl, x, C, dx, _, .ref po, rfl, hs.ins, S.cl, S.n3, rfl, _, rfl, y, C, dy, _, .ref qo, rfl, hs'.ins, S.cl, S.n3, rfl, e, e', h3, h4, s3, s4, k⟩
        · rw [if_neg g2] at k
          exact k
      · have g1 : ¬ z = z' := fun q => g (decide_eq_true (by rw [q]))
        rw [if_neg g1] at k
        exact k
end
theorem intlen {m : Int} (h0 : 0 ≤ m) (h1 : m < 10 ^ 40) : (Str.ofString (toString m)).length ≤ 40 ∧ m.natAbs.log2 < 1920 := by
  refine ⟨numlen h0 h1, ?_⟩
  have h2 : m.natAbs < 2 ^ 140 := by
    have e : (10 : Int) ^ 40 ≤ 2 ^ 140 := by decide
    have e2 : ((2 ^ 140 : Nat) : Int) = (2 : Int) ^ 140 := by decide
    omega
  exact Nat.lt_trans (PySem.Flt.log2_lt_of (by decide) h2) (by decide)
theorem empty_add (z : Str) : Str.empty ++ z = z := by
  cases z with
  | mk a =>
    show Str.mk (#[] ++ a) = Str.mk a
    rw [Array.empty_append]
theorem len_add (a b : Str) : (a ++ b).length = a.length + b.length := by
  cases a with
  | mk a =>
    cases b with
    | mk b =>
      show (a ++ b).size = a.size + b.size
      exact Array.size_append
/-! ### len, item reading and `in` by own methods -/
section
variable {X : Cx} {CX : CXT} {n : Nat} {f C : Addr} {fd : FuncData} {ps : List Str} {sp : Sp} {E : XK} {pins : List (Addr × Obj)} {s : Shared} {σ : L2.St} {H : Hp} {xs : List V} {us : List Value} {Q : VK} {R : Value → Shared → Prop}
theorem run_at0 (F : FnOk X.prog X.w X.K X.mg X.base CX n f fd ps sp) (hb : Binds X.K fd ps []) (hr : Room n X.A) (hx : Passes CX X E) (I : Inv X pins σ H s) (r : Vals xs us) (h : sp xs H Q E)
    (k : ∀ w s' z H', Inv X pins σ H' s' → RelV z w → Q z H' → R w s') : wpAny (model X.prog X.w) X.A (call (.ref f) us) R X.xe s := by
  have hl := F.len _ _ _ _ h
  have hu := r.length
  refine wpAny_call (codeAny_mono (F.run X.A X.stack s H ⟨us, []⟩ us xs Q E hr I.env0 (by
      have := hb s us I.kIn (by first | omega | (simp; omega))
      simpa using this) r h) fun r' s' hq => ?_)
  cases r' with
  | error e => exact hx pins σ H s e s' I hq
  | ok fl =>
    cases fl with
    | ret w =>
      obtain ⟨z, H', I', rz, qz⟩ := I.after hq
      exact k w s' z H' I' rz qz
    | next => exact False.elim hq
    | brk => exact False.elim hq
    | cont => exact False.elim hq
theorem run_in1 (F : FnOk X.prog X.w X.K X.mg X.base CX n f fd ps sp) (hb : Binds X.K fd ps []) (hr : Room (n + 1) X.A) (hx : Passes CX X E) (I : Inv X pins σ H s) (r : Vals xs us) (h : sp xs H Q E)
    (k : ∀ w s' z H', Inv X pins σ H' s' → RelV z w → Q z H' → R w s') : wpAny (model X.prog X.w) X.A.in1 (call (.ref f) us) R X.xe s := by
  have hl := F.len _ _ _ _ h
  have hu := r.length
  refine wpAny_call (codeAny_mono (F.run X.A.in1 X.stack s H ⟨us, []⟩ us xs Q E hr.in1 I.env0.in1 (by
      have := hb s us I.kIn (by first | omega | (simp; omega))
      simpa using this) r h) fun r' s' hq => ?_)
  cases r' with
  | error e => exact hx pins σ H s e s' I hq
  | ok fl =>
    cases fl with
    | ret w =>
      obtain ⟨z, H', I', rz, qz⟩ := I.after hq
      exact k w s' z H' I' rz qz
    | next => exact False.elim hq
    | brk => exact False.elim hq
    | cont => exact False.elim hq
/-- len(o) -/
def rLenO (C : Addr) (sp : Sp) (E : XK) : List V → Hp → VK → Prop := fun xs H Q => ∃ x dx fs, xs = [.ref x] ∧ H x = some (.ins C dx fs) ∧ sp [.ref x] H (fun z H' => ∃ k : Int, z = .int k ∧ 0 ≤ k ∧ k < 2 ^ 63 ∧ Q (.int k) H') E
theorem call_lenO (F : FnOk X.prog X.w X.K X.mg X.base CX n f fd ps sp) (hs : PySem.W.findIn X.K (.ref C) "__len__" = some (some (.ref f))) (hf : PySem.W.isFn X.K (.ref f) = true) (hb : Binds X.K fd ps []) (hr : Room (n + 1) X.A) (hx : Passes CX X E) :
    CallR X (.builtin "len") (rLenO C sp E) := by
  intro pins s σ H xs us Q I r h
  obtain ⟨x, dx, fs, rfl, hX, hsp⟩ := h
  obtain ⟨u, rfl, ru⟩ := vals1 r
  cases ru
  obtain ⟨mA, J, _⟩ := ins_get I.hok hX
  obtain ⟨od, J, _⟩ := J.look
  obtain ⟨m, hF⟩ := I.fr
  refine PySem.W.len_K hF I.ok.mod.kin J hs hf (run_in1 F hb hr hx I (.cons (show RelV (V.ref x) (Value.ref x) from rfl) .nil) hsp fun w s' z H' I' rz q => ?_)
  obtain ⟨k, rfl, h0, h1, q⟩ := q
  obtain ⟨t, rfl⟩ := rz
  exact ⟨⟨h0, h1⟩, .int k, H', I'.tok _, ⟨_, rfl⟩, q⟩
/-- o[i] -/
def rIxO (C : Addr) (sp : Sp) (E : XK) : R2 := fun x y H Q => ∃ a dx fs, x = .ref a ∧ H a = some (.ins C dx fs) ∧ sp [.ref a, y] H Q E
theorem pe_ixO {a b : Expr} {ta tb : TE} {pos : Pos} (F : FnOk X.prog X.w X.K X.mg X.base CX n f fd ps sp) (hs : PySem.W.findIn X.K (.ref C) "__getitem__" = some (some (.ref f))) (hf : PySem.W.fnIn X.K f = true) (hfn : PySem.W.isFn X.K (.ref f) = true) (hb : Binds X.K fd ps [])
    (hr : Room (n + 1) X.A) (hx : Passes CX X E) (ha : PE X a ta) (hi : PE X b tb) (hsl : ∀ o i, subscripted b true (.ref o) i = runValue (.builtin "lifetime.subscript" ⟨[.ref o, i], []⟩)) : PE X (.Subscript a b pos) (tOp (rIxO C sp E) ta tb) := by
  refine ⟨fun pins s σ H Q I h => ?_⟩
  refine Subscript_ (binT ha hi I h fun v u s2 x y H2 I2 rx ry q => ?_)
  obtain ⟨p, dx, fs, rfl, hX, hsp⟩ := q
  cases rx
  obtain ⟨mA, J, _⟩ := ins_get I2.hok hX
  obtain ⟨od, J, _⟩ := J.look
  obtain ⟨m, hF⟩ := I2.fr
  exact PySem.W.sub_K hF I2.ok.mod.kin J hs hf hfn (run_in1 F hb hr hx I2 (.cons (show RelV (V.ref p) (Value.ref p) from rfl) (.cons ry .nil)) hsp fun w s' z H' I' rz q => ⟨z, H', I', rz, q⟩) (hsl _ _)
/-- v in o -/
def rInO (C : Addr) (sp : Sp) (E : XK) : R2 := fun x y H Q => ∃ a dx fs, y = .ref a ∧ H a = some (.ins C dx fs) ∧ sp [.ref a, x] H (fun z H' => ∃ k, z = .bl k ∧ Q (.bl k) H') E
theorem op_inO (F : FnOk X.prog X.w X.K X.mg X.base CX n f fd ps sp) (hs : PySem.W.findIn X.K (.ref C) "__contains__" = some (some (.ref f))) (hfn : PySem.W.isFn X.K (.ref f) = true) (hb : Binds X.K fd ps []) (hr : Room n X.A) (hx : Passes CX X E) : OpR X (compareOp .In) (rInO C sp E) := by
  intro pins s σ H x y v u Q I rx ry h
  obtain ⟨a, dx, fs, rfl, hX, hsp⟩ := h
  cases ry
  obtain ⟨mA, J, _⟩ := ins_get I.hok hX
  obtain ⟨od, J, _⟩ := J.look
  obtain ⟨m, hF⟩ := I.fr
  refine PySem.W.in_K hF I.ok.mod.kin J hs hfn (run_at0 F hb hr hx I (.cons (show RelV (V.ref a) (Value.ref a) from rfl) (.cons rx .nil)) hsp fun w s' z H' I' rz q => ?_)
  obtain ⟨k, rfl, q⟩ := q
  cases rz
  exact wpAny_truthy_bool ⟨.bl k, H', I', rfl, q⟩
end
/-! ### == and != by an own __eq__ -/
section
variable {prog : Program} {w : World} {A : Around} {E : Value → Shared → Prop} {s : Shared} {K : PySem.W.Frag} {x C f : Addr} {ox : Obj} {od : Option Obj} {name : Str} {y : Addr}
/-- x.name(..), the name's def a built-in slot -/
theorem ifBound_B {M : Model} {B : String} {id : String} {args : List Value} {Q : Option Value → Shared → Prop} (X : K.In s.heap) (I : PySem.W.InstAt s.heap x ox C od) (hs : PySem.W.findIn K (.ref C) name = some (some (.builtin id))) (S : Slot B name id)
    (h : wpAny M A (call (.builtin id) (.ref x :: args)) (fun v => Q (some v)) E s) : wpAny M A (callSpecialIfBound? (.ref x) name args) Q E s := by
  simp only [callSpecialIfBound?, bindSpecialIfBound?]
  refine wpAny_holding (wpAny_bind (wpAny_bind (wpAny_bind (I.type.here ((PySem.W.looks_findIn X hs).here ?_)))))
  simp only [S.bind]
  refine wpAny_bind (wpAny_askSetting (wpAny_ite ?_))
  have fin : wpAny M A (call (.builtin id) ([.ref x] ++ args) >>= fun v => pure (some v)) Q E s :=
    wpAny_bind (wpAny_mono h (fun v s' h' => wpAny_pure h') fun _ _ h' => h')
  split
  · exact wpAny_bind (wpAny_pure (wpAny_pure fin))
  · exact wpAny_tryCatch (wpAny_bind (wpAny_pure (wpAny_pure fin)))
theorem objNe_K {Q : Fin → Shared → Prop} (hu : A.units < cLine) (X : K.In s.heap) (I : PySem.W.InstAt s.heap x ox C od) (hs : PySem.W.findIn K (.ref C) "__eq__" = some (some (.ref f))) (hf : PySem.W.isFn K (.ref f) = true)
    (hcall : wpAny (model prog w) A (call (.ref f) [.ref x, .ref y]) (fun v s' => ∃ b, v = .bool b ∧ Q (.done (.ret (.bool (!b)))) s') E s) :
    wpAny (model prog w) A (Builtin.«object.__ne__» ⟨[.ref x, .ref y], []⟩) Q E s := by
  unfold Builtin.«object.__ne__»
  repeat (first
    | with_reducible refine wpAny_cRoomFor hu ?_
    | (refine wpAny_bind (m := callSpecialIfBound? (.ref x) (Str.ofString "__eq__") [.ref y])
        (PySem.W.ifBound_K X I hs hf (wpAny_mono hcall (fun r s' hr => by
          obtain ⟨b, rfl, hq⟩ := hr
          repeat (first | exact hq | exact wpAny_pure hq | exact wpAny_truthy_bool hq | (refine wpAny_bind (m := truthy (.bool _)) (wpAny_truthy_bool ?_)) | wp_step)) fun _ _ e => e)))
    | wp_step)
/-- the class, as != asks of it -/
structure NeC (K : PySem.W.Frag) (C : Addr) : Prop where
  ne : PySem.W.findIn K (.ref C) "__ne__" = some (some (.builtin "object.__ne__"))
  cls : ∃ nm q N bs hdct sn sub ab col dd k0 k1 k2 k3 k5 newId, K.lookup C = some (excClassObj nm q C N bs [.type "object"] hdct sn sub ab col dd k0 k1 k2 k3 k5 newId)
theorem richNe_K {oy : Obj} {Q : Value → Shared → Prop} (hu : A.units + 1 < cLine) (X : K.In s.heap) (T : NeC K C) (I : PySem.W.InstAt s.heap x ox C od) (hy : s.heap.get? y = some oy) (hyc : oy.cls = .ref C)
    (hs : PySem.W.findIn K (.ref C) "__eq__" = some (some (.ref f))) (hf : PySem.W.isFn K (.ref f) = true)
    (hcall : wpAny (model prog w) A.in1 (call (.ref f) [.ref x, .ref y]) (fun v s' => ∃ b, v = .bool b ∧ Q (.bool (!b)) s') E s) :
    wpAny (model prog w) A (richCompare .NotEq (.ref x) (.ref y)) Q E s := by
  obtain ⟨nm, q, N, bs, hdct, sn, sub, ab, col, dd, k0, k1, k2, k3, k5, newId, hC⟩ := T.cls
  have hx := I.at_
  have hc := I.cls
  have one : wpAny (model prog w) A (tryCompare (.ref x) "__ne__" (.ref y)) (fun r s' => ∃ v, r = some v ∧ Q v s') E s := by
    simp only [tryCompare]
    refine wpAny_bind (ifBound_B X I T.ne PySem.F.cmp_object.ne (wpAny_call (codeAny_call_builtin PySem.F.cmp_object.ne.plain PySem.F.cmpEntry_ne
      (wpAny_check_slot_inst (h := s.heap) (g := s.gens) (d := s.drawn) (t := s.toks) (os := s.os) PySem.F.cmpKind_ne PySem.F.cmpSplit_ne (PySem.F.cmpArgs_ne _ _) PySem.F.cmp_object.hasObject hx hc (X _ _ hC)
        (objNe_K (A := A.in1) hu X I hs hf (wpAny_mono hcall (fun v s' hv => ?_) fun _ _ e => e))))))
    obtain ⟨b, rfl, hq⟩ := hv
    first | exact ⟨b, rfl, _, rfl, hq⟩ | exact ⟨b, rfl, wpAny_pure ⟨_, rfl, hq⟩⟩ | exact ⟨b, rfl, wpAny_pure (wpAny_pure ⟨_, rfl, hq⟩)⟩
  unfold richCompare
  simp only [oneThing_ref]
  refine wpAny_holding ?_
  refine wpAny_bind (wpAny_cRoomFor (Nat.lt_of_succ_lt hu) ?_)
  rw [cmpInfo_NotEq]
  dsimp only
  refine wpAny_bind (wpAny_typeOf_ref hx ?_)
  rw [hc]
  refine wpAny_bind (wpAny_typeOf_ref hy ?_)
  rw [hyc]
  rw [show (Value.ref C != Value.ref C) = false from by simp]
  simp only [Bool.false_eq_true, if_false]
  refine wpAny_bind (wpAny_pure ?_)
  simp only [Bool.false_eq_true, if_false]
  refine wpAny_bind (wpAny_mono one (fun r s' hv => ?_) fun _ _ e => e)
  obtain ⟨b, rfl, hq⟩ := hv
  first | exact wpAny_pure hq | exact wpAny_pure (wpAny_pure hq)
end
/-- a value's kind, as == asks: an instance of the class, a text, a tuple -/
inductive EqR (H : Hp) (C : Addr) : V → Prop where
  | ins {b dy : Addr} {gs : List (Str × V)} (e : H b = some (.ins C dy gs)) : EqR H C (.ref b)
  | str (z : Str) : EqR H C (.str z)
  | tup {b : Addr} {xs : List V} (e : H b = some (.tup xs)) : EqR H C (.ref b)
/-- the class, as == asks of it -/
structure EqC (K : PySem.W.Frag) (C f : Addr) : Prop where
  eq : PySem.W.findIn K (.ref C) "__eq__" = some (some (.ref f))
  fn : PySem.W.isFn K (.ref f) = true
  n1 : PySem.W.notFirst K C (.ref C) = true
  n2 : PySem.W.notFirst K C (.type "str") = true
  n3 : PySem.W.notFirst K C (.type "tuple") = true
def rEqO (C : Addr) (sp : Sp) (E : XK) : R2 := fun x y H Q => ∃ a dx fs, x = .ref a ∧ H a = some (.ins C dx fs) ∧ EqR H C y ∧ sp [x, y] H Q E
def rNeO (C : Addr) (sp : Sp) (E : XK) : R2 := fun x y H Q => ∃ a dx fs b dy gs, x = .ref a ∧ y = .ref b ∧ H a = some (.ins C dx fs) ∧ H b = some (.ins C dy gs) ∧ sp [x, y] H (fun z H' => ∃ k, z = .bl k ∧ Q (.bl (!k)) H') E
section
variable {X : Cx} {CX : CXT} {n : Nat} {f C : Addr} {fd : FuncData} {ps : List Str} {sp : Sp} {E : XK}
theorem op_eqO (F : FnOk X.prog X.w X.K X.mg X.base CX n f fd ps sp) (T : EqC X.K C f) (hb : Binds X.K fd ps []) (hr : Room n X.A) (hx : Passes CX X E) : OpR X (compareOp .Eq) (rEqO C sp E) := by
  intro pins s σ H x y v u Q I rx ry h
  obtain ⟨a, dx, fs, rfl, ha, hy, hsp⟩ := h
  cases rx
  obtain ⟨mA, J, _⟩ := ins_get I.hok ha
  obtain ⟨od, J, _⟩ := J.look
  obtain ⟨m, hF⟩ := I.fr
  have hl := F.len _ _ _ _ hsp
  have run : wpAny (model X.prog X.w) X.A (call (.ref f) [.ref a, u]) (PySem.W.CmpBack (EP X pins σ Q)) X.xe s := by
    have r2 : Vals [V.ref a, y] [Value.ref a, u] := .cons rfl (.cons ry .nil)
    refine wpAny_call (codeAny_mono (F.run X.A X.stack s H ⟨[.ref a, u], []⟩ [.ref a, u] [.ref a, y] Q E hr I.env0 (by
      have := hb s [.ref a, u] I.kIn (by simpa using hl)
      simpa using this) r2 hsp) fun r s' hq => ?_)
    cases r with
    | error e => exact hx pins σ H s e s' I hq
    | ok fl =>
      cases fl with
      | ret w =>
        obtain ⟨z, H', I', rz, qz⟩ := I.after hq
        exact SlX.cmpback rz ⟨z, H', I', rz, qz⟩
      | next => exact False.elim hq
      | brk => exact False.elim hq
      | cont => exact False.elim hq
  show wpAny (model X.prog X.w) X.A (richCompare .Eq (.ref a) u) (EP X pins σ Q) X.xe s
  cases hy with
  | ins e =>
    cases ry
    obtain ⟨mB, J', _⟩ := ins_get I.hok e
    obtain ⟨od', J', _⟩ := J'.look
    exact PySem.W.cmp_K (op := .Eq) (tb := .ref C) hr.units0 hF I.ok.mod.kin J J'.type T.n1 T.eq T.fn run
  | str z =>
    obtain ⟨t, rfl⟩ := ry
    exact PySem.W.cmp_K (op := .Eq) (tb := .type "str") hr.units0 hF I.ok.mod.kin J (PySem.W.kitx_str.ty _ _ I.kIn True.intro) T.n2 T.eq T.fn run
  | tup e =>
    cases ry
    obtain ⟨its, r, ⟨o, ho, hc, n, hd⟩, hs⟩ := I.tuple (X := X) (.inl (.inl e))
    exact PySem.W.cmp_K (op := .Eq) (tb := .type "tuple") hr.units0 hF I.ok.mod.kin J (PySem.W.kitx_tuple.ty _ _ I.kIn ⟨_, ho, hc⟩) T.n3 T.eq T.fn run
theorem op_neO (F : FnOk X.prog X.w X.K X.mg X.base CX n f fd ps sp) (T : EqC X.K C f) (N : NeC X.K C) (hb : Binds X.K fd ps []) (hr : Room (n + 1) X.A) (hx : Passes CX X E) : OpR X (compareOp .NotEq) (rNeO C sp E) := by
  intro pins s σ H x y v u Q I rx ry h
  obtain ⟨a, dx, fs, b, dy, gs, rfl, rfl, ha, hbb, hsp⟩ := h
  cases rx
  cases ry
  obtain ⟨mA, J, _⟩ := ins_get I.hok ha
  obtain ⟨od, J, _⟩ := J.look
  obtain ⟨mB, J', _⟩ := ins_get I.hok hbb
  obtain ⟨od', J', _⟩ := J'.look
  have hl := F.len _ _ _ _ hsp
  show wpAny (model X.prog X.w) X.A (richCompare .NotEq (.ref a) (.ref b)) (EP X pins σ Q) X.xe s
  refine richNe_K (by have := hr.un; omega) I.kIn N J J'.at_ J'.cls T.eq T.fn ?_
  have r2 : Vals [V.ref a, V.ref b] [Value.ref a, Value.ref b] := .cons rfl (.cons rfl .nil)
  refine wpAny_call (codeAny_mono (F.run X.A.in1 X.stack s H ⟨[.ref a, .ref b], []⟩ [.ref a, .ref b] [.ref a, .ref b] _ E hr.in1 I.env0.in1 (by
    have := hb s [.ref a, .ref b] I.kIn (by simpa using hl)
    simpa using this) r2 hsp) fun r s' hq => ?_)
  cases r with
  | error e => exact hx pins σ H s e s' I hq
  | ok fl =>
    cases fl with
    | ret w =>
      obtain ⟨z, H', I', rz, k, ez, qz⟩ := I.after hq
      subst ez
      cases rz
      exact ⟨k, rfl, .bl (!k), H', I', rfl, qz⟩
    | next => exact False.elim hq
    | brk => exact False.elim hq
    | cont => exact False.elim hq
end
/-! ### what stays; bad numbers -/
/-- all but the pool and the tables of code is as it was -/
def Mv (p q : Addr) (H H' : Hp) : Prop := ∀ b o, b ≠ p → b ≠ q → (∀ ps, o ≠ .tbl ps) → H b = some o → H' b = some o
theorem Mv.refl (p q : Addr) (H : Hp) : Mv p q H H := fun _ _ _ _ _ h => h
theorem Mv.trans {p q : Addr} {H H1 H2 : Hp} (a : Mv p q H H1) (b : Mv p q H1 H2) : Mv p q H H2 := fun c o n1 n2 n3 h => b c o n1 n2 n3 (a c o n1 n2 n3 h)
theorem Mv.same {p q : Addr} {H H1 : Hp} (a : Same H H1) : Mv p q H H1 := fun c o _ _ _ h => a c o h
theorem Mv.but {p q : Addr} {H H1 : Hp} (a : But p q H H1) : Mv p q H H1 := fun c o n1 n2 _ h => a c o n1 n2 h
theorem Mv.ext {p q : Addr} {H H1 : Hp} (a : LamX.ExtN H H1) : Mv p q H H1 := fun c o _ _ n3 h => a c o h n3
theorem PoolAt.ext {p q : Addr} {H H' : Hp} (h : PoolAt H p q) (a : LamX.ExtN H H') : PoolAt H' p q := by
  obtain ⟨ns, i, x, z, b, h1, h2, h3⟩ := h
  exact ⟨ns, i, x, z, b, a _ _ h1 (fun _ e => by cases e), a _ _ h2 (fun _ e => by cases e), h3⟩
theorem tabs_but {T : List (Addr × Str)} {p q : Addr} {H H' : Hp} (hP : PoolAt H p q) (t : LamX.Tabs T H) (b : But p q H H') : LamX.Tabs T H' := by
  obtain ⟨ns, i, x, z, y, h1, h2, _⟩ := hP
  intro r hr
  obtain ⟨ps, e1, e2, e3⟩ := t r hr
  have far : ∀ c o, H c = some o → (∀ xs, o ≠ .lst xs) → H' c = some o := fun c o e n => b c o (fun q => n _ (by rw [q, h1] at e; exact (Option.some.inj e).symm)) (fun q => n _ (by rw [q, h2] at e; exact (Option.some.inj e).symm)) e
  refine ⟨ps, far _ _ e1 (fun _ e => by cases e), e2, fun pos cv hc => ?_⟩
  obtain ⟨c, e4, e5⟩ := e3 pos cv hc
  exact ⟨c, e4, far _ _ e5 (fun _ e => by unfold LamX.CodeO at e; cases e)⟩
/-- an object beside the pool -/
structure Sf (p q : Addr) (H : Hp) (a : Addr) (o : HO) : Prop where
  e : H a = some o
  np : a ≠ p
  nq : a ≠ q
theorem Sf.same {p q : Addr} {H H' : Hp} {a : Addr} {o : HO} (h : Sf p q H a o) (s : Same H H') : Sf p q H' a o := ⟨s _ _ h.e, h.np, h.nq⟩
theorem Sf.mv {p q : Addr} {H H' : Hp} {a : Addr} {o : HO} (h : Sf p q H a o) (b : Mv p q H H') (n : ∀ ps, o ≠ .tbl ps := by intro _ z; cases z) : Sf p q H' a o := ⟨b _ _ h.np h.nq n h.e, h.np, h.nq⟩
theorem Sf.but {p q : Addr} {H H' : Hp} {a : Addr} {o : HO} (h : Sf p q H a o) (b : But p q H H') : Sf p q H' a o := ⟨b _ _ h.np h.nq h.e, h.np, h.nq⟩
theorem Sf.new {p q : Addr} {H : Hp} {a : Addr} {o : HO} (hP : PoolAt H p q) (h : H a = none) : Sf p q (upd H a o) a o := by
  obtain ⟨ns, i, x, s, b, h1, h2, _⟩ := hP
  exact ⟨upd_same, fun z => ne_of_none h1 h z.symm, fun z => ne_of_none h2 h z.symm⟩
theorem okD_strOk {d : PyData} (h : okD d = true) : PyData.strOk d.shown = true := by
  unfold okD at h
  rw [Bool.and_eq_true] at h
  exact h.2
/-- ['word', repr(..)] as data -/
theorem shaped_two {x : String} {z : Str} (h : PyData.strOk z = true) : SeqAt.shaped (.list [.str (Str.ofString x), .str z]) = true := by
  have e : PyData.canLay0 (.list [.str (Str.ofString x), .str z]) = true := by
    show ((PyData.strOk (Str.ofString x)) && (PyData.strOk z && true)) = true
    rw [strOk_of, h]
    rfl
  unfold SeqAt.shaped
  rw [e]
  rfl
theorem eqv_two (x z : Str) : PyData.eqv (.list [.str x, .str z]) (.list [.str x, .str z]) = true := by
  show ((x == x) && ((z == z) && true)) = true
  simp
theorem dp_two {K : PySem.W.Frag} {H : Hp} {a : Addr} {x z : Str} (e : H a = some (.lst [.str x, .str z])) : Dp K H (.ref a) (.list [.str x, .str z]) := .lst (.inl (.inl e)) (.cons (.str _) (.cons (.str _) .nil))
theorem same_made {C : Addr} {H : Hp} {x dx : Addr} (hx : H x = none) (hd : H dx = none) (ne : dx ≠ x) : Same H (upd (upd H dx (.own x)) x (.ins C dx [])) := fun b o e => by
  rw [upd_ne (ne_of_none e hx), upd_ne (ne_of_none e hd)]
  exact e
theorem passF {P : Program} {w : World} {X : Cx} : Passes (L2.CX P w) X (fun _ _ _ => False) := fun _ _ _ _ _ _ _ c => by
  obtain ⟨_, _, _, _, _, _, _, _, _, _, _, _, z⟩ := c
  exact z.elim
/-! ### a def whose code object is known -/
theorem fnG_okC {P : Program} {w : World} {K : PySem.W.Frag} {mg : Str → Option Value} {base : Heap} {k : Nat} {x qual : Str} {st : Stmt} {f : Addr} {oc : Value} {od an : Option Addr} {osl : Array (Option Value)} {kV doc pm cdv ct : Value} {N ps : List Str} {sp : Sp}
    (lk : K.lookup f = some ⟨oc, od, .func (PySem.W.fnOf x qual (defArgs st) (defBody st) (defScope st) .none kV doc pm an cdv ct), osl⟩) (hcd : PySem.W.codeIn K cdv qual = true) (S : FnScope N ps (defScope st))
    (len : ∀ vs H Q E, sp vs H Q E → vs.length = ps.length)
    (body : ∀ (A : Around) (outer : List Env) (s : Shared) (H : Hp) (vs : List V) (Q : VK) (E : XK), A.guards = some [] → Room k (A.deeper (PyProof.Rows.envOfC qual (defScope st) s.heap.objs.size f cdv)) → sp vs H Q E →
      ∃ t, PSs (cxOf CX0 P w K mg base N qual (defScope st) f cdv A outer s H E).nox (defBody st) t ∧ t { nx := fun _ H' => Q .non H', rt := Q } (start N vs) H) :
    FnG P w K mg base CX0 (k + 1) f (PySem.W.fnOf x qual (defArgs st) (defBody st) (defScope st) .none kV doc pm an cdv ct) ps sp := by
  constructor
  · exact len
  intro A outer s H args us vs Q E hg hr e0 hb r hsp
  have hl := len _ _ _ _ hsp
  have old : ∀ b o, base.get? b = some o → s.heap.get? b = some o := fun b o e => (e0.bs b o e).1
  have KX : K.In s.heap := e0.mod.kin.keeps old
  have kinds : ∀ y ∈ ps.zip us, (defScope st).names.lookup y.1 = some .local ∨
      ((defScope st).names.lookup y.1 = some .cell ∧ ((cellsFrom (s.heap.objs.size + 1) (defScope st).names []).lookup y.1).isSome = true) := by
    rintro ⟨n, v⟩ hy
    have q := S.par n (List.of_mem_zip hy).1
    refine q.imp id fun q => ⟨q, ?_⟩
    exact PySem.W.cellsFrom_some _ _ _ (.inl q)
  refine codeAny_call_function hr.depth (KX _ _ lk) rfl S.co S.gen rfl (PySem.W.codeRec_of KX hcd) (hb _ _ _ _ ?_)
  refine wpAny_newFunctionEnv_cells S.kind kinds fun env he s1 z => ?_
  subst he
  refine ⟨(e0.mod.nolimit.keeps old).keeps z.toInCall.keep, PySem.codeAny_func ?_⟩
  obtain ⟨t, ht, hq⟩ := body A outer s H vs Q E hg (hr.deeper _) hsp
  have I := inv_start (CX := CX0) (E := E) (cd := cdv) (f := f) S hr.hd e0 hl r z
  refine wpAny_mono (ht.nox.run [] s1 (start N vs) H _ I hq) (fun fl s' hs => ?_) fun e s' hs => hs
  cases fl with
  | ret u =>
    obtain ⟨v, σ', H', J, rv, q⟩ := hs
    exact ⟨v, H', J.os, J.bare, J.base, J.hok, rv, q⟩
  | next =>
    obtain ⟨σ', H', J, q⟩ := hs
    exact ⟨V.non, H', J.os, J.bare, J.base, J.hok, rfl, q⟩
  | brk => exact hs.choose_spec.choose_spec.2.elim
  | cont => exact hs.choose_spec.choose_spec.2.elim
/-- texts of lists of a few ints -/
theorem okW_ints {ns : List Int} (hl : ns.length ≤ 100) (h : ∀ n ∈ ns, 0 ≤ n ∧ n < 10 ^ 40) : (PyData.list (ns.map PyData.int)).showable = true ∧ (PyData.list (ns.map PyData.int)).depth ≤ 50 ∧ (PyData.list (ns.map PyData.int)).shown.length ≤ 100000 := by
  have a1 : ∀ ms : List Int, (∀ n ∈ ms, 0 ≤ n ∧ n < 10 ^ 40) → PyData.showableAll (ms.map PyData.int) = true := fun ms => by
    induction ms with
    | nil => intro _; rfl
    | cons m ms ih =>
      intro q
      have e1 : PyData.showable (.int m) = true := decide_eq_true (intlen (q m (List.mem_cons_self ..)).1 (q m (List.mem_cons_self ..)).2).2
      show (PyData.showable (.int m) && PyData.showableAll (ms.map PyData.int)) = true
      rw [e1, ih fun n hn => q n (List.mem_cons_of_mem _ hn)]
      rfl
  have a2 : ∀ ms : List Int, PyData.depthAll (ms.map PyData.int) = 0 := fun ms => by
    induction ms with
    | nil => rfl
    | cons m ms ih =>
      show max (PyData.depth (.int m)) (PyData.depthAll (ms.map PyData.int)) = 0
      rw [ih]
      rfl
  have a3 : ∀ ms : List Int, (∀ n ∈ ms, 0 ≤ n ∧ n < 10 ^ 40) → (PyData.shownAll (ms.map PyData.int)).length = ms.length ∧ ((PyData.shownAll (ms.map PyData.int)).map (·.length)).sum ≤ 40 * ms.length := fun ms => by
    induction ms with
    | nil => intro _; exact ⟨rfl, Nat.le_refl _⟩
    | cons m ms ih =>
      intro q
      obtain ⟨i1, i2⟩ := ih fun n hn => q n (List.mem_cons_of_mem _ hn)
      have l1 := (intlen (q m (List.mem_cons_self ..)).1 (q m (List.mem_cons_self ..)).2).1
      have e : PyData.shownAll ((m :: ms).map PyData.int) = Str.ofString (toString m) :: PyData.shownAll (ms.map PyData.int) := rfl
      rw [e, List.length_cons, List.map_cons, List.sum_cons, List.length_cons, i1]
      refine ⟨rfl, ?_⟩
      show (Str.ofString (toString m)).length + _ ≤ _
      omega
  refine ⟨a1 ns h, ?_, ?_⟩
  · show PyData.depthAll (ns.map PyData.int) + 1 ≤ 50
    rw [a2]
    decide
  · obtain ⟨b1, b2⟩ := a3 ns h
    have b3 := PySem.listText_len_le (PyData.shownAll (ns.map PyData.int))
    show (listText (PyData.shownAll (ns.map PyData.int))).length ≤ 100000
    rw [b1] at b3
    omega
theorem pairEq (a b c d : Int) : (if a = c then decide (b = d) else false) = PyData.eqv (.list [.int a, .int b]) (.list [.int c, .int d]) := by
  show _ = ((a == c) && ((b == d) && true))
  by_cases h : a = c
  · rw [if_pos h, h]
    by_cases g : b = d
    · rw [g]
      simp
    · simp [g]
  · rw [if_neg h]
    simp [h]
/-- an object beside the pool is stored to -/
theorem PoolAt.same' {p q a : Addr} {H : Hp} {o : HO} (h : PoolAt H p q) (f : Sf p q H a o) (o' : HO) : PoolAt (upd H a o') p q := by
  obtain ⟨ns, i, x, z, b, h1, h2, h3⟩ := h
  exact ⟨ns, i, x, z, b, by rw [upd_ne f.np.symm]; exact h1, by rw [upd_ne f.nq.symm]; exact h2, h3⟩
theorem tabs_put {T : List (Addr × Str)} {p q a : Addr} {H : Hp} {xs : List V} (t : LamX.Tabs T H) (f : Sf p q H a (.lst xs)) (o' : HO) : LamX.Tabs T (upd H a o') := by
  intro r hr
  obtain ⟨ps, e1, e2, e3⟩ := t r hr
  have far : ∀ c o, H c = some o → (∀ xs, o ≠ .lst xs) → upd H a o' c = some o := fun c o e n => by
    rw [upd_ne (fun z => n xs (by rw [z, f.e] at e; exact (Option.some.inj e).symm))]
    exact e
  refine ⟨ps, far _ _ e1 (fun _ e => by cases e), e2, fun pos cv hc => ?_⟩
  obtain ⟨c, e4, e5⟩ := e3 pos cv hc
  exact ⟨c, e4, far _ _ e5 (fun _ e => by unfold LamX.CodeO at e; cases e)⟩
theorem ifTwo {A B : Prop} {x z : Str} (h : B) : if (!PyData.eqv (.list [.str x, .str z]) (.list [.str x, .str z])) = true then A else B := by
  rw [eqv_two]
  exact h
/-! ### calls where no repr is under way -/
section
variable {X : Cx} {k : Nat} {f f2 : Addr} {fd fd2 : FuncData} {ps ps2 : List Str} {sp sp2 : Sp} {x : Str} {p pos : Pos} {e : Expr} {es : List Expr} {t : TA} {tc : TE}
theorem run_fnG {pins : List (Addr × Obj)} {σ : L2.St} {H : Hp} {s : Shared} {Q : VK} {us : List Value} {vs : List V} (F : FnG X.prog X.w X.K X.mg X.base CX0 k f fd ps sp) (hg : X.A.guards = some []) (hr : Room k X.A) (hb : Binds X.K fd ps [])
    (I : Inv X pins σ H s) (r : Vals vs us) (h : sp vs H Q E0) : wpAny (model X.prog X.w) X.A (call (.ref f) us) (EP X pins σ Q) X.xe s := by
  have hl := F.len _ _ _ _ h
  have hu := r.length
  refine wpAny_call (codeAny_mono (F.run X.A X.stack s H ⟨us, []⟩ us vs Q E0 hg hr I.env0 (by
      have := hb s us I.kIn (by first | omega | (simp; omega))
      simpa using this) r h) fun r' s' hq => ?_)
  cases r' with
  | error e => exact (pass0 : Passes CX0 X E0) pins σ H s e s' I hq
  | ok fl =>
    cases fl with
    | ret w => exact I.after hq
    | next => exact False.elim hq
    | brk => exact False.elim hq
    | cont => exact False.elim hq
theorem pe_callGd (F : FnG X.prog X.w X.K X.mg X.base CX0 k f fd ps sp) (hgd : X.A.guards = some []) (hr : Room k X.A) (hg : Gl X x) (hm : X.mg x = some (.ref f)) (hk : PySem.W.keepIn X.K (.ref f) = true) (hb : Binds X.K fd ps [])
    (ha : PA X (e :: es) t) (hdb : (x == ("__debug__" : Str)) = false := by decide) (he : starEach (e :: es) X.env = (false, eval e X.env) :: starEach es X.env := by rfl) (hpl : (backTo pos (starEach es X.env)).any (·.1) = false := by rfl) :
    PE X (.Call (.Name x p) (e :: es) [] pos) (fun σ H Q => t σ H fun vs H1 => sp vs H1 Q E0) := by
  refine ⟨fun pins s σ H Q I h => ?_⟩
  refine wpAny_Call_Name_kw (ld_glob I hg hm ?_ hdb)
  refine PySem.W.callWith_K (h₀ := X.base) I.ok.mod.kin hk (thn (ha.run pos pins s σ H _ I h) fun us s1 ⟨vs, H1, I1, r, q⟩ => ⟨I1.kIn, ?_⟩) he hpl
  exact run_fnG F hgd hr hb I1 r q
end
theorem pss_join {X : Cx} {st : Stmt} {rest : List Stmt} {t u : TS} (h1 : PS X st t) (h2 : PSs X rest u) : PSs X (st :: rest) (fun D σ H => ∃ J : L2.St → Hp → Prop, t { D with nx := J } σ H ∧ ∀ σ' H', J σ' H' → u D σ' H') := by
  refine ⟨fun pins s σ H D I h => ?_⟩
  obtain ⟨J, h, hJ⟩ := h
  refine wpAny_execs_cons (thn (h1.run pins s σ H { D with nx := J } I h) fun f s1 q => ?_)
  cases f with
  | next =>
    obtain ⟨σ', H', I', q⟩ := q
    exact h2.run pins s1 σ' H' D I' (hJ _ _ q)
  | ret v => exact q
  | brk => exact q
  | cont => exact q
abbrev tJoin (t u : TS) : TS := fun D σ H => ∃ J : L2.St → Hp → Prop, t { D with nx := J } σ H ∧ ∀ σ' H', J σ' H' → u D σ' H'
theorem pss_joinT {X : Cx} {st : Stmt} {rest : List Stmt} {t u : TS} (h1 : PS X st t) (h2 : PSs X rest u) : PSs X (st :: rest) (tJoin t u) := pss_join h1 h2
/-! ### tuples joined and cut -/
section
variable {X : Cx}
def rCatT2 (K : PySem.W.Frag) : R2 := fun x y H Q => ∃ a b xs ys, x = .ref a ∧ y = .ref b ∧ SqT K H a xs ∧ SqT K H b ys ∧ xs.length + ys.length ≤ sizeLine ∧ ∀ p H', Same H H' → SqT K H' p (xs ++ ys) → Q (.ref p) H'
theorem op_catT2 : OpR X (binaryOp .Add) (rCatT2 X.K) := by
  intro pins s σ H x y v u Q I rx ry h
  obtain ⟨a, b, xs, ys, rfl, rfl, h1, h2, hz, k⟩ := h
  exact op_catA pins s σ H _ _ v u Q I rx ry ⟨a, b, xs, ys, rfl, rfl, h1, h2, hz, fun e => k b H (Same.refl _) (by rw [e]; exact h2), fun _ e => k a H (Same.refl _) (by rw [e, List.append_nil]; exact h1), fun _ _ p hp => k p _ (Same.new hp) (.inl (.inl upd_same))⟩
def rSlT2 (K : PySem.W.Frag) : V → Option Int → Option Int → Hp → VK → Prop := fun x lo hi H Q => ∃ a xs, x = .ref a ∧ SqT K H a xs ∧ ∀ p H', Same H H' → SqT K H' p (cutV xs lo hi) → Q (.ref p) H'
theorem sl_tup2 : SlR X (rSlT2 X.K) := by
  intro pins s σ H x v vl vu lo hi sl Q I rx hs pl pu h
  obtain ⟨a, xs, rfl, hx, k⟩ := h
  refine sl_tupA pins s σ H _ v vl vu lo hi sl Q I rx hs pl pu ⟨a, xs, rfl, hx, fun e => k a H (Same.refl _) ?_, fun _ p hp => k p _ (Same.new hp) (.inl (.inl upd_same))⟩
  unfold cutV
  rw [e.1, e.2, List.drop_zero, Nat.sub_zero, List.take_length]
  exact hx
end
theorem sIx_nat (n d i : Nat) (h : i ≤ n) : HT.sIx n d (some (i : Int)) = i := by
  show (if (i : Int) < 0 then ((i : Int) + (n : Int)).toNat else min ((i : Int).toNat) n) = i
  rw [if_neg (by omega)]
  omega
theorem cut_to (xs : List V) (i : Nat) (h : i ≤ xs.length) : cutV xs none (some (i : Int)) = xs.take i := by
  unfold cutV
  rw [HT.sIx_none, sIx_nat _ _ _ h]
  rfl
theorem cut_from (xs : List V) (i : Nat) (h : i ≤ xs.length) : cutV xs (some (i : Int)) none = xs.drop i := by
  unfold cutV
  rw [HT.sIx_none, sIx_nat _ _ _ h, List.take_of_length_le (by rw [List.length_drop]; exact Nat.le_refl _)]
/-- another item at a place -/
def setL (xs : List V) (i : Nat) (v : V) : List V := xs.take i ++ [v] ++ xs.drop (i + 1)
theorem setL_len {xs : List V} {i : Nat} {v : V} (h : i < xs.length) : (setL xs i v).length = xs.length := by
  unfold setL
  rw [List.length_append, List.length_append, List.length_take, List.length_drop, List.length_singleton]
  omega
theorem setL_mem {xs : List V} {i : Nat} {v y : V} (h : y ∈ setL xs i v) : y = v ∨ y ∈ xs := by
  unfold setL at h
  rcases List.mem_append.mp h with h | h
  · rcases List.mem_append.mp h with h | h
    · exact .inr (List.mem_of_mem_take h)
    · exact .inl (List.mem_singleton.mp h)
  · exact .inr (List.mem_of_mem_drop h)
abbrev sRepl : Stmt := top 31
def spRepl (K : PySem.W.Frag) : Sp := fun vs H Q _ => ∃ (a : Addr) (xs : List V) (i : Nat) (v : V), vs = [.ref a, .int (i : Nat), v] ∧ SqT K H a xs ∧ i < xs.length ∧ xs.length ≤ 1000 ∧ ∀ p H', Same H H' → SqT K H' p (setL xs i v) → Q (.ref p) H'
section
variable {P : Program} {w : World} {K : PySem.W.Frag} {mg : Str → Option Value} {base : Heap}
theorem scRepl : FnScope ["items", "at", "item"] ["items", "at", "item"] (defScope sRepl) := ⟨rfl, rfl, rfl, by decide +kernel, rfl, by decide +kernel, by decide +kernel⟩
theorem ok_repl {f : Addr} {fd : FuncData} (F : Fun K "replaced" "replaced" sRepl f fd) : FnOk P w K mg base CX0 1 f fd ["items", "at", "item"] (spRepl K) := by
  refine F.ok scRepl (fun vs H Q E h => ?_) (fun cdv A outer s H vs Q E hr h => ?_)
  · obtain ⟨a, xs, i, v, rfl, _⟩ := h
    rfl
  · obtain ⟨a, xs, i, v, rfl, hS, hi, hl, k⟩ := h
    refine ⟨_, pss_one (ps_ret (pe_op op_catT2 (pe_op op_catT2 (pe_slice sl_tup2 (pv 0) po_none (po_some (pv 1))) (pe_tup (pa_cons (pv 2) pa_nil))) (pe_slice sl_tup2 (pv 0) (po_some (pe_op op_add (pv 1) pe_int)) po_none))), ?_⟩
    refine ⟨_, rfl, _, rfl, _, rfl, a, xs, rfl, hS, fun p1 H1 s1 e1 => ⟨_, rfl, (by show 1 ≤ sizeLine; decide), fun t ht => ?_⟩⟩
    rw [cut_to xs i (by omega)] at e1
    have s2 := Same.new (o := .tup [v]) ht
    refine ⟨p1, t, _, [v], rfl, rfl, s2.seqT e1, .inl (.inl upd_same), ?_, fun p2 H2 s3 e2 => ?_⟩
    · rw [List.length_take]
      exact Nat.le_trans (show min i xs.length + 1 ≤ 1001 by omega) (by decide)
    · have s13 := (s1.trans s2).trans s3
      refine ⟨_, rfl, _, rfl, _, _, rfl, rfl, _, rfl, a, xs, rfl, s13.seqT hS, fun p3 H3 s4 e3 => ?_⟩
      have e3' : SqT K H3 p3 (xs.drop (i + 1)) := by
        rw [show ((i : Nat) : Int) + 1 = ((i + 1 : Nat) : Int) by omega, cut_from xs (i + 1) (by omega)] at e3
        exact e3
      refine ⟨p2, p3, _, _, rfl, rfl, s4.seqT e2, e3', ?_, fun p4 H4 s5 e4 => k p4 H4 ((s13.trans s4).trans s5) e4⟩
      rw [List.length_append, List.length_take, List.length_drop]
      exact Nat.le_trans (show min i xs.length + 1 + (xs.length - (i + 1)) ≤ 1001 by omega) (by decide)
end
/-! ### a sort is made -/
structure GoodS (H : Hp) (z : Str) (rs os : List V) : Prop where
  z1 : nameOk z = true
  z2 : z.length ≤ 1000
  l1 : 1 ≤ rs.length
  l10 : rs.length ≤ 10
  rv : ∀ y ∈ rs, RowV H y
  am : ∀ y ∈ rs, amongOf H y rs.length = true
  on : areNames os 2 = true
theorem GoodS.same {H H' : Hp} {z : Str} {rs os : List V} (g : GoodS H z rs os) (s : Same H H') : GoodS H' z rs os :=
  ⟨g.z1, g.z2, g.l1, g.l10, fun y hy => (g.rv y hy).same s, fun y hy => by rw [amongOf_same (g.rv y hy) s]; exact g.am y hy, g.on⟩
theorem names_kd {H : Hp} {os : List V} (h : areNames os 2 = true) : os.length ≤ 1000 ∧ ∀ x ∈ os, ∃ n, Kd H x n := by
  unfold areNames at h
  split at h
  · rename_i hl
    split at h
    · rename_i ha
      refine ⟨by omega, fun x hx => ?_⟩
      have hn := List.all_eq_true.mp ha x hx
      cases x with
      | str z =>
        refine ⟨_, .str z ?_⟩
        have hz : nameOk z = true := hn
        unfold nameOk at hz
        split at hz
        · omega
        · cases hz
      | _ => cases hn
    · cases h
  · cases h
section
variable {K : PySem.W.Frag} {C CN CR : Addr} {H : Hp} {E : XK} {Qx : Addr → Hp → Prop}
theorem mkS_gen {nm : V} {n : String} {rowsV ownV : V} {oR oO : Option (List V)} (hn : Kd H nm n) (hR : LsQ K H rowsV oR) (hRs : ∀ rs, oR = some rs → rs.length ≤ 1000 ∧ ∀ y ∈ rs, RowV H y) (hO : LsQ K H ownV oO) (hOs : ∀ xs, oO = some xs → xs.length ≤ 1000 ∧ ∀ x ∈ xs, ∃ n, Kd H x n)
    (b1 : isName nm = false → Bad E H CN nm) (b2 : isName nm = true → (∀ rs, oR = some rs → ¬ (1 ≤ rs.length ∧ rs.length ≤ 10)) → Bad E H CR rowsV)
    (b3 : isName nm = true → ∀ rs, oR = some rs → 1 ≤ rs.length → rs.length ≤ 10 → (∀ (i : Nat) (y : V), rs[i]? = some y → amongOf H y rs.length = false → (∀ (j : Nat) (z : V), j < i → rs[j]? = some z → amongOf H z rs.length = true) → Bad E H CR y) ∧
      ((∀ (j : Nat) (z : V), rs[j]? = some z → amongOf H z rs.length = true) → (namesOk oO = false → Bad E H CN ownV) ∧ ∀ os, oO = some os → areNames os 2 = true → ∀ H' x dx pr po, Same H H' → H x = none → SqT K H' pr rs → SqT K H' po os → H' x = some (.ins C dx [("_name", nm), ("_rows", .ref pr), ("_own", .ref po)]) → Qx x H')) :
    ∀ x dx, H x = none → H dx = none → dx ≠ x → spSort K C CN CR [.ref x, nm, rowsV, ownV] (upd (upd H dx (.own x)) x (.ins C dx [])) (fun v H3 => v = .non ∧ Qx x H3) E := by
  intro x dx hx hd ne
  have s := same_made (C := C) hx hd ne
  have am : ∀ rs, oR = some rs → ∀ (j : Nat) (z : V) (m : Int), rs[j]? = some z → amongOf (upd (upd H dx (.own x)) x (.ins C dx [])) z m = amongOf H z m := fun rs e j z m hz => amongOf_same ((hRs rs e).2 z (List.mem_of_getElem? hz)) s
  refine ⟨x, dx, nm, n, rowsV, oR, ownV, oO, rfl, upd_same, hn.same s, hR.same s, fun rs e => ⟨(hRs rs e).1, fun y hy => ((hRs rs e).2 y hy).same s⟩, hO.same s, fun xs e => ⟨(hOs xs e).1, fun y hy => ((hOs xs e).2 y hy).imp fun _ q => q.same s⟩, fun q => (b1 q).imp s, fun q r => (b2 q r).imp s, fun q rs e l1 l10 => ?_⟩
  obtain ⟨c1, c2⟩ := b3 q rs e l1 l10
  refine ⟨fun i y hy ha hj => (c1 i y hy (by rw [← am rs e i y _ hy]; exact ha) fun j z hji hz => by rw [← am rs e j z _ hz]; exact hj j z hji hz).imp s, fun all => ?_⟩
  obtain ⟨c3, c4⟩ := c2 fun j z hz => by rw [← am rs e j z _ hz]; exact all j z hz
  exact ⟨fun q => (c3 q).imp s, fun os e2 an H' pr po sx h1 h2 h3 => ⟨rfl, c4 os e2 an H' x dx pr po (fun b u r => sx b u (ne_of_none r hx) (s b u r)) hx h1 h2 h3⟩⟩
theorem isName_of {z : Str} (h : nameOk z = true) : isName (.str z) = true := h
theorem mkS_ok {z : Str} {rs os : List V} {rowsV ownV : V} (g : GoodS H z rs os) (hr : LsV K H rowsV rs) (ho : LsV K H ownV os) (k : ∀ H' x dx pr po, Same H H' → H x = none → SortAt K H' C x dx (.str z) pr po rs os → Qx x H') :
    ∀ x dx, H x = none → H dx = none → dx ≠ x → spSort K C CN CR [.ref x, .str z, rowsV, ownV] (upd (upd H dx (.own x)) x (.ins C dx [])) (fun v H3 => v = .non ∧ Qx x H3) E := by
  have l10 := g.l10
  refine mkS_gen (.str z g.z2) (.yes hr) (fun rs' e => by cases e; exact ⟨by omega, g.rv⟩) (.yes ho) (fun os' e => by cases e; exact names_kd g.on) (fun q => ?_) (fun _ q => absurd ⟨g.l1, g.l10⟩ (q rs rfl)) (fun _ rs' e _ _ => ?_)
  · rw [isName_of g.z1] at q
    cases q
  · cases e
    refine ⟨fun i y hy ha _ => ?_, fun _ => ⟨fun q => ?_, fun os' e an H' x dx pr po s hx h1 h2 h3 => ?_⟩⟩
    · rw [g.am y (List.mem_of_getElem? hy)] at ha
      cases ha
    · rw [show namesOk (some os) = areNames os 2 from rfl, g.on] at q
      cases q
    · cases e
      exact k H' x dx pr po s hx ⟨h3, h1, h2⟩
end
/-! ### changed -/
abbrev sChg : Stmt := inClass (top 32) 9
def spChg (K : PySem.W.Frag) (C CB CR : Addr) : Sp := fun vs H Q E => ∃ (x dx : Addr) (z : Str) (pr po : Addr) (rs os : List V) (v : V) (n : String) (rw : V), vs = [.ref x, v, rw] ∧ SortAt K H C x dx (.str z) pr po rs os ∧ GoodS H z rs os ∧ Kd H v n ∧ RowV H rw ∧
  (isIndex v (rs.length : Nat) = false → Bad E H CB v) ∧ (∀ i : Nat, v = .int (i : Nat) → i < rs.length → (amongOf H rw rs.length = false → Bad E H CR rw) ∧
    (amongOf H rw rs.length = true → ∀ H' y dy pr' po', Same H H' → SortAt K H' C y dy (.str z) pr' po' (setL rs i rw) os → GoodS H' z (setL rs i rw) os → Q (.ref y) H'))
theorem isIndex_nat {v : V} {n : Nat} (h : isIndex v (n : Nat) = true) : ∃ i : Nat, v = .int (i : Nat) ∧ i < n := by
  cases v with
  | int i =>
    have h' : (if 0 ≤ i then decide (i < (n : Int)) else false) = true := h
    by_cases q : 0 ≤ i
    · rw [if_pos q] at h'
      obtain ⟨j, rfl⟩ := Int.eq_ofNat_of_zero_le q
      have := of_decide_eq_true h'
      exact ⟨j, rfl, by omega⟩
    · rw [if_neg q] at h'
      cases h'
  | _ => cases h
section
variable {P : Program} {w : World} {K : PySem.W.Frag} {mg : Str → Option Value} {base : Heap}
theorem scChg : FnScope ["self", "at", "row"] ["self", "at", "row"] (defScope sChg) := ⟨rfl, rfl, rfl, by decide +kernel, rfl, by decide +kernel, by decide +kernel⟩
theorem ok_chg {f C CN CR CB fI fX fR fT : Addr} {fd fdI fdX fdR fdT : FuncData} (F : Fun K "changed" "Sort.changed" sChg f fd) (T : MTxt K mg) (TI : ITxt K mg fI CN CR CB) (S : SCls K C) (gS : mg "Sort" = some (.ref C))
    (FI : Fun K "__init__" "HandleError.__init__" sHInit fI fdI) (bI : Binds K fdI ["self", "value"] [])
    (FX : Fun K "is_index" "is_index" sIndex fX fdX) (bX : Binds K fdX ["value", "many"] []) (gX : mg "is_index" = some (.ref fX)) (GX : FnOk P w K mg base CX0 2 fX fdX ["value", "many"] spIndex)
    (FR : Fun K "replaced" "replaced" sRepl fR fdR) (bR : Binds K fdR ["items", "at", "item"] []) (gR : mg "replaced" = some (.ref fR))
    (MH : Mk K C fT) (GT : FnOk P w K mg base (L2.CX P w) 4 fT fdT ["self", "name", "rows", "own"] (spSort K C CN CR)) (kb : KBn K fdT ["self", "name", "rows", "own"] 3 ["own"] (fun us ws => us ++ ws) (fun vs zs => vs ++ zs)) :
    FnOk P w K mg base (L2.CX P w) 6 f fd ["self", "at", "row"] (spChg K C CB CR) := by
  have GI : FnOk P w K mg base CX0 1 fI fdI ["self", "value"] (spInitE K "value") := ok_hinit FI
  have GR : FnOk P w K mg base CX0 1 fR fdR ["items", "at", "item"] (spRepl K) := ok_repl FR
  refine F.okX scChg (fun vs H Q E h => ?_) (fun cdv A outer s H vs Q E hr h => ?_)
  · obtain ⟨_, _, _, _, _, _, _, _, _, _, rfl, _⟩ := h
    rfl
  · obtain ⟨x, dx, z, pr, po, rs, os, v, n, rw, rfl, hs, g, hk, hrw, b1, b2⟩ := h
    refine ⟨_, pss_cons (ps_if (pt_not (pt_val (pe_call GX (hr.mono (by decide)) rfl gX FX.kp bX .nil pass0 (pa_cons (pv 1) (pa_cons (pe_callB call_len_seq (by rfl) T.len PySem.boot_len (pa_cons (pe_fld (pv 0) (by rfl)) pa_nil)) pa_nil)))))
        (pss_one (ps_raise rfl (takes_of rfl rfl rfl rfl) (pmk_oex TI.eB.ox TI.eB.i TI.eB.t GI (hr.mono (by decide)) bI .nil pass0 rfl TI.eB.g (pa_cons (pv 1) pa_nil)))) pss_nil)
      (pss_one (ps_ret (pe_makeK MH GT (hr.mono (by decide)) rfl gS kb (passes_call (takes_of rfl rfl rfl rfl) (fun _ _ _ _ h => h)) (pa_cons (pe_fld (pv 0) (by rfl)) (pa_cons (pe_call GR (hr.mono (by decide)) rfl gR FR.kp bR .nil pass0 (pa_cons (pe_fld (pv 0) (by rfl)) (pa_cons (pv 1) (pa_cons (pv 2) pa_nil)))) pa_nil)) (pk_cons (pe_fld (pv 0) (by rfl)) pk_nil)))), ?_⟩
    refine ⟨v, rfl, _, rfl, x, C, dx, _, .ref pr, rfl, hs.ins, S.cl, S.n2, rfl, pr, rs, rfl, .inr hs.rows, v, n, (rs.length : Nat), rfl, hk, _, rfl, ?_⟩
    cases hb : isIndex v (rs.length : Nat) with
    | false => exact iteT ⟨v, rfl, (show 1 ≤ 1000 by decide), raise_ok TI.eB (b1 hb)⟩
    | true =>
      obtain ⟨i, rfl, hi⟩ := isIndex_nat hb
      obtain ⟨c1, c2⟩ := b2 i rfl hi
      have l10 := g.l10
      refine iteF ⟨_, rfl, x, C, dx, _, .str z, rfl, hs.ins, S.cl, S.n1, rfl, _, rfl, x, C, dx, _, .ref pr, rfl, hs.ins, S.cl, S.n2, rfl, _, rfl, _, rfl, pr, rs, i, rw, rfl, hs.rows, hi, by omega, fun p H1 s1 e1 => ?_⟩
      have h1 := hs.same s1
      refine ⟨_, rfl, x, C, dx, _, .ref po, rfl, h1.ins, S.cl, S.n3, rfl, rfl, rfl, ?_⟩
      have g1 := g.same s1
      have ln : (setL rs i rw).length = rs.length := setL_len hi
      have rv1 : ∀ y ∈ setL rs i rw, RowV H1 y := fun y hy => by
        rcases setL_mem hy with rfl | hy
        · exact hrw.same s1
        · exact g1.rv y hy
      cases ha : amongOf H rw rs.length with
      | true =>
        have g2 : GoodS H1 z (setL rs i rw) os := ⟨g1.z1, g1.z2, by rw [ln]; exact g1.l1, by rw [ln]; exact g1.l10, rv1, fun y hy => by
          rw [ln]
          rcases setL_mem hy with rfl | hy
          · rw [amongOf_same hrw s1]
            exact ha
          · exact g1.am y hy, g1.on⟩
        exact mkS_ok g2 (.tup e1) (.tup h1.own) fun H' y dy pr' po' s2 _ sa => c2 ha H' y dy pr' po' (s1.trans s2) sa (g2.same s2)
      | false =>
        refine mkS_gen (.str z g.z2) (.yes (.tup e1)) (fun rs' e => by cases e; exact ⟨by rw [ln]; omega, rv1⟩) (.yes (.tup h1.own)) (fun os' e => by cases e; exact names_kd g.on) (fun q => ?_) (fun _ q => absurd ⟨by rw [ln]; exact g.l1, by rw [ln]; exact g.l10⟩ (q _ rfl)) (fun _ rs' e _ _ => ?_)
        · rw [isName_of g.z1] at q
          cases q
        · cases e
          have at_i : (setL rs i rw)[i]? = some rw := by
            unfold setL
            rw [List.append_assoc, List.getElem?_append_right (by rw [List.length_take]; omega), List.length_take, show i - min i rs.length = 0 by omega]
            rfl
          refine ⟨fun j y hy hb2 hj => ?_, fun all => ?_⟩
          · rcases setL_mem (List.mem_of_getElem? hy) with rfl | hy2
            · exact (c1 ha).imp s1
            · rw [ln, g1.am y hy2] at hb2
              cases hb2
          · have q := all i rw at_i
            rw [ln, amongOf_same hrw s1, ha] at q
            cases q
end
/-! ### drawn rows -/
abbrev sPick : Stmt := top 37
def spPick : Sp := fun vs H Q _ => ∃ (p q a : Addr) (xs : List V), vs = [.ref p, .ref a] ∧ PoolAt H p q ∧ Sf p q H a (.lst xs) ∧ xs ≠ [] ∧ xs.length ≤ 1000 ∧ ∀ H' (j : Nat) v, But p q H H' → PoolAt H' p q → xs[j]? = some v → Q v H'
section
variable {P : Program} {w : World} {K : PySem.W.Frag} {mg : Str → Option Value} {base : Heap}
theorem scPick : FnScope ["pool", "some"] ["pool", "some"] (defScope sPick) := ⟨rfl, rfl, rfl, by decide +kernel, rfl, by decide +kernel, by decide +kernel⟩
theorem ok_pick {f fD : Addr} {fd fdD : FuncData} (F : Fun K "_law_pick" "_law_pick" sPick f fd) (hlen : mg "len" = none) (FD : Fun K "_law_draw" "_law_draw" sDraw fD fdD) (bD : Binds K fdD ["pool", "many"] []) (gD : mg "_law_draw" = some (.ref fD))
    (GD : FnOk P w K mg base CX0 2 fD fdD ["pool", "many"] spDraw) : FnOk P w K mg base CX0 3 f fd ["pool", "some"] spPick := by
  refine F.ok scPick (fun vs H Q E h => ?_) (fun cdv A outer s H vs Q E hr h => ?_)
  · obtain ⟨p, q, a, xs, rfl, _⟩ := h
    rfl
  · obtain ⟨p, q, a, xs, rfl, hP, ha, hne, hl, k⟩ := h
    refine ⟨_, pss_one (ps_ret (pe_ix ix_list (pv 1) (pe_call GD hr rfl gD FD.kp bD .nil pass0 (pa_cons (pv 0) (pa_cons (pe_callB call_len_seq (by rfl) hlen (by decide +kernel) (pa_cons (pv 1) pa_nil)) pa_nil))) (fun _ _ => rfl))), ?_⟩
    have h1 : 1 ≤ xs.length := List.length_pos_iff.mpr hne
    refine ⟨_, rfl, _, rfl, _, rfl, a, _, rfl, .inl (.inl (.inl ha.e)), p, q, _, rfl, hP, by omega, by omega, fun H' r b P' r0 r1 => ?_⟩
    obtain ⟨j, rfl⟩ := Int.eq_ofNat_of_zero_le r0
    have hj : j < xs.length := by omega
    exact ⟨a, _, _, xs[j], rfl, rfl, .inl (.inl (ha.but b).e), atI_nat (List.getElem?_eq_getElem hj), k H' j _ b P' (List.getElem?_eq_getElem hj)⟩
end
abbrev sDRow : Stmt := top 38
abbrev sBad : Stmt := top 41
def nm3 : List Str := ["v", "w", "c"]
def deedsL : List Str := ["open", "close", "use", "renew", "drop"]
def rowsAll (m : Nat) : List (List V) :=
  [.str "rest"] :: ((List.range (m + 1)).map fun a => [V.str "go", .int (a : Nat)]) ++ ((List.range (m + 1)).flatMap fun a => (List.range (m + 1)).map fun b => [V.str "go", .int (a : Nat), .int (b : Nat)]) ++
  [[.str "lock", .str "k"], [.str "unlock", .str "k"]] ++ (nm3.flatMap fun a => nm3.map fun b => [V.str "set", .str a, .str b]) ++ (deedsL.flatMap fun w => nm3.map fun a => [V.str w, .str a])
def fdV : V → PyData
  | .str z => .str z
  | .int i => .int i
  | .bl b => .bool b
  | _ => .none
def dRow (xs : List V) : PyData := .tuple (xs.map fdV)
def flatS : V → Bool
  | .str z => decide (z.length ≤ 100)
  | .int _ => true
  | _ => false
def chk (m : Nat) (xs : List V) : Bool := amongL xs (m : Nat) && xs.all flatS && decide (xs.length ≤ 4) && (dRow xs).canLay0 && decide ((dRow xs).depth ≤ 1) && (dRow xs).showable && PyData.strOk (dRow xs).shown && decide ((dRow xs).shown.length ≤ 100)
theorem rows_chk : ∀ m, m < 11 → (rowsAll m).all (chk m) = true := by decide +kernel
structure RowG (m : Nat) (xs : List V) : Prop where
  am : amongL xs (m : Nat) = true
  fl : xs.all flatS = true
  ln : xs.length ≤ 4
  cl : (dRow xs).canLay0 = true
  de : (dRow xs).depth ≤ 1
  sh : (dRow xs).showable = true
  ok : PyData.strOk (dRow xs).shown = true
  le : (dRow xs).shown.length ≤ 100
theorem row_good {m : Nat} {xs : List V} (hm : m ≤ 10) (h : xs ∈ rowsAll m) : RowG m xs := by
  have b := List.all_eq_true.mp (rows_chk m (by omega)) xs h
  unfold chk at b
  simp only [Bool.and_eq_true, decide_eq_true_eq] at b
  obtain ⟨⟨⟨⟨⟨⟨⟨b1, b2⟩, b3⟩, b4⟩, b5⟩, b6⟩, b7⟩, b8⟩ := b
  exact ⟨b1, b2, b3, b4, b5, b6, b7, b8⟩
theorem flat_kd {H : Hp} {x : V} (h : flatS x = true) : ∃ n, Kd H x n := by
  cases x with
  | str z =>
    have h' : decide (z.length ≤ 100) = true := h
    exact ⟨_, .str z (Nat.le_trans (of_decide_eq_true h') (by decide))⟩
  | int i => exact ⟨_, .int i⟩
  | _ => cases h
theorem flat_dp {K : PySem.W.Frag} {H : Hp} : ∀ {xs : List V}, xs.all flatS = true → DpAll K H xs (xs.map fdV)
  | [], _ => .nil
  | x :: xs, h => by
    rw [List.all_cons, Bool.and_eq_true] at h
    refine .cons ?_ (flat_dp h.2)
    cases x with
    | str z => exact .str z
    | int i => exact .int i
    | _ => cases h.1
/-- a row that is drawn, at its address -/
def RowAt (p q : Addr) (H : Hp) (m : Nat) (v : V) (xs : List V) : Prop := ∃ t, v = .ref t ∧ Sf p q H t (.tup xs) ∧ xs ∈ rowsAll m
theorem RowAt.mv {p q : Addr} {H H' : Hp} {m : Nat} {v : V} {xs : List V} (h : RowAt p q H m v xs) (b : Mv p q H H') : RowAt p q H' m v xs := by
  obtain ⟨t, e, f, r⟩ := h
  exact ⟨t, e, f.mv b, r⟩
theorem RowAt.rv {p q : Addr} {H : Hp} {m : Nat} {v : V} {xs : List V} (h : RowAt p q H m v xs) (hm : m ≤ 10) : RowV H v ∧ amongOf H v (m : Nat) = true := by
  obtain ⟨t, rfl, f, r⟩ := h
  have g := row_good hm r
  have ln := g.ln
  exact ⟨.inr ⟨t, xs, rfl, f.e, by omega, fun x hx => flat_kd (List.all_eq_true.mp g.fl x hx)⟩, by rw [amongOf_tup f.e]; exact g.am⟩
theorem RowAt.dp {K : PySem.W.Frag} {p q : Addr} {H : Hp} {m : Nat} {v : V} {xs : List V} (h : RowAt p q H m v xs) (hm : m ≤ 10) : Dp K H v (dRow xs) := by
  obtain ⟨t, rfl, f, r⟩ := h
  exact .tup (.inl (.inl f.e)) (flat_dp (row_good hm r).fl)
def spDRow : Sp := fun vs H Q _ => ∃ (p q a b : Addr) (m : Nat), vs = [.ref p, .ref a, .ref b, .int (m : Nat)] ∧ PoolAt H p q ∧ Sf p q H a (.lst [.str "v", .str "w", .str "c"]) ∧ Sf p q H b (.lst [.str "k"]) ∧ m ≤ 10 ∧
  ∀ H' v xs, But p q H H' → PoolAt H' p q → RowAt p q H' m v xs → Q v H'
theorem mem_go1 {m a : Nat} (h : a < m + 1) : [V.str "go", .int (a : Nat)] ∈ rowsAll m := by
  unfold rowsAll
  simp only [List.mem_append, List.mem_cons, List.mem_map, List.mem_range]
  exact .inl (.inl (.inl (.inl (.inr ⟨a, h, rfl⟩))))
theorem mem_go2 {m a b : Nat} (h : a < m + 1) (h2 : b < m + 1) : [V.str "go", .int (a : Nat), .int (b : Nat)] ∈ rowsAll m := by
  unfold rowsAll
  simp only [List.mem_append, List.mem_cons, List.mem_flatMap, List.mem_map, List.mem_range]
  exact .inl (.inl (.inl (.inr ⟨a, h, b, h2, rfl⟩)))
theorem mem_rest {m : Nat} : [V.str "rest"] ∈ rowsAll m := by
  unfold rowsAll
  simp only [List.mem_append, List.mem_cons]
  exact .inl (.inl (.inl (.inl (.inl trivial))))
theorem mem_lock {m : Nat} {w : Str} (h : w = "lock" ∨ w = "unlock") : [V.str w, .str "k"] ∈ rowsAll m := by
  unfold rowsAll
  simp only [List.mem_append]
  refine .inl (.inl (.inr ?_))
  rcases h with rfl | rfl
  · exact List.mem_cons_self ..
  · exact List.mem_cons_of_mem _ (List.mem_cons_self ..)
theorem mem_set {m : Nat} {a b : Str} (h : a ∈ nm3) (h2 : b ∈ nm3) : [V.str "set", .str a, .str b] ∈ rowsAll m := by
  unfold rowsAll
  simp only [List.mem_append, List.mem_flatMap, List.mem_map]
  exact .inl (.inr ⟨a, h, b, h2, rfl⟩)
theorem mem_deed {m : Nat} {w a : Str} (h : w ∈ deedsL) (h2 : a ∈ nm3) : [V.str w, .str a] ∈ rowsAll m := by
  unfold rowsAll
  simp only [List.mem_append, List.mem_flatMap, List.mem_map]
  exact .inr ⟨w, h, a, h2, rfl⟩
theorem nm3_at {j : Nat} {v : V} (h : ([.str "v", .str "w", .str "c"] : List V)[j]? = some v) : ∃ z, v = .str z ∧ z ∈ nm3 := by
  match j, h with
  | 0, h => cases h; exact ⟨_, rfl, by decide +kernel⟩
  | 1, h => cases h; exact ⟨_, rfl, by decide +kernel⟩
  | 2, h => cases h; exact ⟨_, rfl, by decide +kernel⟩
section
variable {P : Program} {w : World} {K : PySem.W.Frag} {mg : Str → Option Value} {base : Heap}
theorem scDRow : FnScope ["pool", "names", "bolts", "many", "way", "words", "word"] ["pool", "names", "bolts", "many"] (defScope sDRow) := ⟨rfl, rfl, rfl, by decide +kernel, rfl, by decide +kernel, by decide +kernel⟩
theorem ok_drow {f fD fP : Addr} {fd fdD fdP : FuncData} (F : Fun K "_law_draw_row" "_law_draw_row" sDRow f fd) (FD : Fun K "_law_draw" "_law_draw" sDraw fD fdD) (bD : Binds K fdD ["pool", "many"] []) (gD : mg "_law_draw" = some (.ref fD))
    (GD : FnOk P w K mg base CX0 2 fD fdD ["pool", "many"] spDraw) (FP : Fun K "_law_pick" "_law_pick" sPick fP fdP) (bP : Binds K fdP ["pool", "some"] []) (gP : mg "_law_pick" = some (.ref fP)) (GP : FnOk P w K mg base CX0 3 fP fdP ["pool", "some"] spPick) :
    FnOk P w K mg base CX0 4 f fd ["pool", "names", "bolts", "many"] spDRow := by
  refine F.ok scDRow (fun vs H Q E h => ?_) (fun cdv A outer s H vs Q E hr h => ?_)
  · obtain ⟨_, _, _, _, _, rfl, _⟩ := h
    rfl
  · obtain ⟨p, q, a, b, m, rfl, hP, fa, fb, hm, k⟩ := h
    refine ⟨_, (pss_cons (ps_set (i := 4) scDRow.nd rfl (.inl rfl) (pe_call GD (hr.mono (by decide)) rfl gD FD.kp bD .nil pass0 (pa_cons (pv 0) (pa_cons pe_int pa_nil))))
      (pss_cons (ps_if (PW.pt (pw_or (pt_cmpR op_eq (pv 4) pe_int (nomark _)) (pw_or1 (pt_cmpR (op_eqD hr.units) (pv 1) (pe_lst pa_nil) (nomark _))))) (pss_one (ps_ret (pe_ifExp (pt_cmpR op_eq (pe_op op_mod (pv 4) pe_int) pe_int (nomark _)) (pe_tup (pa_cons pe_str pa_nil)) (pe_tup (pa_cons pe_str (pa_cons (pe_call GD (hr.mono (by decide)) rfl gD FD.kp bD .nil pass0 (pa_cons (pv 0) (pa_cons (pe_op op_add (pv 3) pe_int) pa_nil))) pa_nil)))))) pss_nil)
      (pss_cons (ps_if (pt_cmpR op_eq (pv 4) pe_int (nomark _)) (pss_one (ps_ret (pe_tup (pa_cons pe_str (pa_cons (pe_call GD (hr.mono (by decide)) rfl gD FD.kp bD .nil pass0 (pa_cons (pv 0) (pa_cons (pe_op op_add (pv 3) pe_int) pa_nil))) (pa_cons (pe_call GD (hr.mono (by decide)) rfl gD FD.kp bD .nil pass0 (pa_cons (pv 0) (pa_cons (pe_op op_add (pv 3) pe_int) pa_nil))) pa_nil)))))) pss_nil)
      (pss_cons (ps_if (PW.pt (pw_and (pt_cmpR op_lt (pv 4) pe_int (nomark _)) (pw_and1 (pt_cmpR (op_neD hr.units) (pv 2) (pe_lst pa_nil) (nomark _))))) (pss_one (ps_ret (pe_tup (pa_cons (pe_ix ix_list (pe_lst (pa_cons pe_str (pa_cons pe_str pa_nil))) (pe_op op_sub (pv 4) pe_int) (fun _ _ => rfl)) (pa_cons (pe_call GP (hr.mono (by decide)) rfl gP FP.kp bP .nil pass0 (pa_cons (pv 0) (pa_cons (pv 2) pa_nil))) pa_nil))))) pss_nil)
      (pss_cons (ps_if (pt_cmpR op_lt (pv 4) pe_int (nomark _)) (pss_one (ps_ret (pe_tup (pa_cons pe_str (pa_cons (pe_call GP (hr.mono (by decide)) rfl gP FP.kp bP .nil pass0 (pa_cons (pv 0) (pa_cons (pv 1) pa_nil))) (pa_cons (pe_call GP (hr.mono (by decide)) rfl gP FP.kp bP .nil pass0 (pa_cons (pv 0) (pa_cons (pv 1) pa_nil))) pa_nil)))))) pss_nil)
      (pss_cons (ps_set (i := 5) scDRow.nd rfl (.inl rfl) (pe_op op_cat (pe_op op_rep (pe_lst (pa_cons pe_str (pa_cons pe_str (pa_cons pe_str pa_nil)))) pe_int) (pe_lst (pa_cons pe_str (pa_cons pe_str pa_nil)))))
      (pss_cons (ps_set (i := 6) scDRow.nd rfl (.inl rfl) (pe_ix ix_list (pv 5) (pe_call GD (hr.mono (by decide)) rfl gD FD.kp bD .nil pass0 (pa_cons (pv 0) (pa_cons pe_int pa_nil))) (fun _ _ => rfl)))
      (pss_one (ps_ret (pe_tup (pa_cons (pv 6) (pa_cons (pe_call GP (hr.mono (by decide)) rfl gP FP.kp bP .nil pass0 (pa_cons (pv 0) (pa_cons (pv 1) pa_nil))) pa_nil)))))))))))), ?_⟩
    have new : ∀ {H' : Hp} {xs : List V} {t : Addr}, PoolAt H' p q → But p q H H' → H' t = none → xs ∈ rowsAll m → Q (.ref t) (upd H' t (.tup xs)) := fun hP' b' ht hx =>
      k _ _ _ (b'.trans (.of_same (Same.new ht))) (hP'.same (Same.new ht)) ⟨_, rfl, Sf.new hP' ht, hx⟩
    refine ⟨_, rfl, p, q, 20, rfl, hP, by decide, by decide, fun H1 way b1 P1 w0 w20 => ?_⟩
    obtain ⟨way, rfl⟩ := Int.eq_ofNat_of_zero_le w0
    have fa1 := fa.but b1
    have fb1 := fb.but b1
    have many1 : ∀ {H' : Hp} {r : Int}, 0 ≤ r → r < (m : Int) + 1 → ∃ j : Nat, r = (j : Int) ∧ j < m + 1 := fun h0 h1 => by
      obtain ⟨j, rfl⟩ := Int.eq_ofNat_of_zero_le h0
      exact ⟨j, rfl, by omega⟩
    refine ⟨_, rfl, rfl, _, rfl, ite2 (fun h0 => ?_) (fun h0 => ?_)⟩
    · have hw : way = 0 := by
        have e := of_decide_eq_true h0
        injection e with e
        omega
      subst hw
      refine ⟨_, rfl, _, _, rfl, rfl, (by show (0 : Int) < 2; decide), rfl, _, rfl, iteT ⟨(by show 1 ≤ sizeLine; decide), fun t ht => new P1 b1 ht mem_rest⟩⟩
    · refine ⟨_, rfl, (by show 0 ≤ sizeLine; decide), fun l hl => ⟨.list [.str "v", .str "w", .str "c"], .list [], .lst (.inl (.inl ((Same.new hl) _ _ fa1.e))) (.cons (.str _) (.cons (.str _) (.cons (.str _) .nil))), .lst (.inl (.inl upd_same)) .nil, by decide +kernel, by decide +kernel, _, rfl, ?_⟩⟩
      rw [show PyData.eqv (.list [.str "v", .str "w", .str "c"]) (.list []) = false by decide +kernel]
      have sl := Same.new (o := .lst []) hl
      have P2 := P1.same sl
      have b2 := b1.trans (.of_same sl)
      have fa2 := fa1.same sl
      have fb2 := fb1.same sl
      clear P1 b1 fa1 fb1
      generalize upd H1 l (.lst []) = H2 at *
      clear hl sl
      refine iteF ⟨_, rfl, rfl, _, rfl, ite2 (fun h1 => ?_) (fun h1 => ?_)⟩
      · refine ⟨_, rfl, _, rfl, _, _, rfl, rfl, p, q, _, rfl, P2, by omega, by omega, fun H3 r3 b3 P3 r30 r31 => ⟨_, rfl, _, rfl, _, _, rfl, rfl, p, q, _, rfl, P3, by omega, by omega, fun H4 r4 b4 P4 r40 r41 => ⟨(by show 3 ≤ sizeLine; decide), fun t ht => ?_⟩⟩⟩
        obtain ⟨j3, rfl, l3⟩ := many1 (H' := H3) r30 r31
        obtain ⟨j4, rfl, l4⟩ := many1 (H' := H4) r40 r41
        exact new P4 ((b2.trans b3).trans b4) ht (mem_go2 l3 l4)
      · have n0 : way ≠ 0 := fun q => h0 (decide_eq_true (by rw [q]; rfl))
        have n1 : way ≠ 1 := fun q => h1 (decide_eq_true (by rw [q]; rfl))
        refine ⟨_, rfl, _, _, rfl, rfl, _, rfl, ite2 (fun h2 => ?_) (fun h2 => ?_)⟩
        · have l4 : way < 4 := by
            have := of_decide_eq_true h2
            omega
          refine ⟨_, rfl, (by show 0 ≤ sizeLine; decide), fun l hl => ⟨.list [.str "k"], .list [], .lst (.inl (.inl ((Same.new hl) _ _ fb2.e))) (.cons (.str _) .nil), .lst (.inl (.inl upd_same)) .nil, by decide +kernel, by decide +kernel, _, rfl, ?_⟩⟩
          rw [show PyData.eqv (.list [.str "k"]) (.list []) = false by decide +kernel]
          refine iteT ⟨(by show 2 ≤ sizeLine; decide), fun L hL => ?_⟩
          have s3 := (Same.new (o := .lst []) hl).trans (Same.new (o := .lst [.str "lock", .str "unlock"]) hL)
          obtain ⟨w', hw', hl'⟩ : ∃ w' : Str, atI ([.str "lock", .str "unlock"] : List V) ((way : Int) - 2) = some (.str w') ∧ (w' = "lock" ∨ w' = "unlock") := by
            rcases (show way = 2 ∨ way = 3 by omega) with rfl | rfl
            · exact ⟨"lock", by decide +kernel, .inl rfl⟩
            · exact ⟨"unlock", by decide +kernel, .inr rfl⟩
          have eL : (upd (upd H2 l (.lst [])) L (.lst [.str "lock", .str "unlock"])) L = _ := upd_same
          have P4 := P2.same s3
          have fb4 := fb2.same s3
          have b4 := b2.trans (.of_same s3)
          generalize upd (upd H2 l (.lst [])) L (.lst [.str "lock", .str "unlock"]) = H4 at *
          refine ⟨_, rfl, _, _, rfl, rfl, L, _, _, .str w', rfl, rfl, .inl (.inl eL), hw', _, rfl, _, rfl, p, q, b, _, rfl, P4, fb4, by simp, by decide, fun H5 j v b5 P5 hv => ⟨(by show 2 ≤ sizeLine; decide), fun t ht => ?_⟩⟩
          have ev : v = .str "k" := by
            match j, hv with
            | 0, hv => cases hv; rfl
          subst ev
          exact new P5 (b4.trans b5) ht (mem_lock hl')
        · refine ⟨_, rfl, _, _, rfl, rfl, _, rfl, ite2 (fun h3 => ?_) (fun h3 => ?_)⟩
          · refine ⟨_, rfl, _, rfl, p, q, a, _, rfl, P2, fa2, by simp, by decide, fun H3 j v b3 P3 hv => ⟨_, rfl, _, rfl, p, q, a, _, rfl, P3, fa2.but b3, by simp, by decide, fun H4 j' v' b4 P4 hv' => ⟨(by show 3 ≤ sizeLine; decide), fun t ht => ?_⟩⟩⟩
            obtain ⟨z, rfl, hz⟩ := nm3_at hv
            obtain ⟨z', rfl, hz'⟩ := nm3_at hv'
            exact new P4 ((b2.trans b3).trans b4) ht (mem_set hz hz')
          · refine ⟨(by show 3 ≤ sizeLine; decide), fun l1 hl1 => ⟨l1, 3, _, rfl, rfl, upd_same, by decide, by decide, by decide, fun l2 hl2 => ⟨(by show 2 ≤ sizeLine; decide), fun l3 hl3 => ⟨l2, l3, _, _, rfl, rfl, (Same.new hl3) _ _ upd_same, upd_same, by decide, fun W hW => ?_⟩⟩⟩⟩
            have s2 := ((Same.new (o := .lst [.str "open", .str "close", .str "use"]) hl1).trans (Same.new (o := .lst (List.replicate (3 : Int).toNat [V.str "open", .str "close", .str "use"]).flatten) hl2)).trans (Same.new (o := .lst [.str "renew", .str "drop"]) hl3)
            have sW := Same.new (o := .lst ((List.replicate (3 : Int).toNat [V.str "open", .str "close", .str "use"]).flatten ++ [.str "renew", .str "drop"])) hW
            have s3 := s2.trans sW
            have P4 := P2.same s3
            have fa4 := fa2.same s3
            have b4 := b2.trans (.of_same s3)
            have fW : Sf p q _ W (.lst ((List.replicate (3 : Int).toNat [V.str "open", .str "close", .str "use"]).flatten ++ [.str "renew", .str "drop"])) := Sf.new (P2.same s2) hW
            generalize upd (upd (upd (upd H2 l1 (.lst [.str "open", .str "close", .str "use"])) l2 (.lst (List.replicate (3 : Int).toNat [V.str "open", .str "close", .str "use"]).flatten)) l3 (.lst [.str "renew", .str "drop"])) W (.lst ((List.replicate (3 : Int).toNat [V.str "open", .str "close", .str "use"]).flatten ++ [.str "renew", .str "drop"])) = H4 at *
            refine ⟨_, rfl, _, rfl, p, q, 11, rfl, P4, by decide, by decide, fun H5 r b5 P5 r0 r11 => ?_⟩
            obtain ⟨j, rfl⟩ := Int.eq_ofNat_of_zero_le r0
            have fa5 := fa4.but b5
            have key : ∃ w' : Str, ((List.replicate (3 : Int).toNat [V.str "open", .str "close", .str "use"]).flatten ++ [.str "renew", .str "drop"])[j]? = some (.str w') ∧ w' ∈ deedsL := by
              match j, r11 with
              | 0, _ => exact ⟨"open", rfl, by decide +kernel⟩
              | 1, _ => exact ⟨"close", rfl, by decide +kernel⟩
              | 2, _ => exact ⟨"use", rfl, by decide +kernel⟩
              | 3, _ => exact ⟨"open", rfl, by decide +kernel⟩
              | 4, _ => exact ⟨"close", rfl, by decide +kernel⟩
              | 5, _ => exact ⟨"use", rfl, by decide +kernel⟩
              | 6, _ => exact ⟨"open", rfl, by decide +kernel⟩
              | 7, _ => exact ⟨"close", rfl, by decide +kernel⟩
              | 8, _ => exact ⟨"use", rfl, by decide +kernel⟩
              | 9, _ => exact ⟨"renew", rfl, by decide +kernel⟩
              | 10, _ => exact ⟨"drop", rfl, by decide +kernel⟩
              | n + 11, h => exact absurd h (by omega)
            obtain ⟨w', hw', hd⟩ := key
            refine ⟨W, _, _, .str w', rfl, rfl, .inl (.inl (fW.but b5).e), atI_nat hw', _, rfl, _, rfl, _, rfl, p, q, a, _, rfl, P5, fa5, by simp, by decide, fun H6 j' v b6 P6 hv => ⟨(by show 2 ≤ sizeLine; decide), fun t ht => ?_⟩⟩
            obtain ⟨z, rfl, hz⟩ := nm3_at hv
            exact new P6 ((b4.trans b5).trans b6) ht (mem_deed hd hz)
end
/-- what is no name -/
inductive OddN (p q : Addr) (H : Hp) : V → PyData → Prop
  | str (z : Str) (h : z ∈ (["", "A", "a1", "toolongne", "a b"] : List Str)) : OddN p q H (.str z) (.str z)
  | non : OddN p q H .non .none
  | three : OddN p q H (.int 3) (.int 3)
  | tt : OddN p q H (.bl true) (.bool true)
  | tup {a : Addr} (h : Sf p q H a (.tup [.str "a"])) : OddN p q H (.ref a) (.tuple [.str "a"])
  | lst {a : Addr} (h : Sf p q H a (.lst [.str "a"])) : OddN p q H (.ref a) (.list [.str "a"])
theorem OddN.mv {p q : Addr} {H H' : Hp} {v : V} {d : PyData} (h : OddN p q H v d) (b : Mv p q H H') : OddN p q H' v d := by
  cases h with
  | str z h => exact .str z h
  | non => exact .non
  | three => exact .three
  | tt => exact .tt
  | tup h => exact .tup (h.mv b)
  | lst h => exact .lst (h.mv b)
theorem OddN.kd {p q : Addr} {H : Hp} {v : V} {d : PyData} (h : OddN p q H v d) : ∃ n, Kd H v n := by
  cases h with
  | str z h =>
    refine ⟨_, .str z ?_⟩
    have a : (["", "A", "a1", "toolongne", "a b"] : List Str).all (fun z => decide (z.length ≤ 1000)) = true := by decide +kernel
    exact of_decide_eq_true (List.all_eq_true.mp a z h)
  | non => exact ⟨_, .non⟩
  | three => exact ⟨_, .int _⟩
  | tt => exact ⟨_, .bl _⟩
  | tup h => exact ⟨_, .tup h.e⟩
  | lst h => exact ⟨_, .lst h.e⟩
theorem OddN.no {p q : Addr} {H : Hp} {v : V} {d : PyData} (h : OddN p q H v d) : isName v = false := by
  cases h with
  | str z h =>
    have a : (["", "A", "a1", "toolongne", "a b"] : List Str).all (fun z => !nameOk z) = true := by decide +kernel
    have b := List.all_eq_true.mp a z h
    show nameOk z = false
    cases q : nameOk z with
    | true => rw [q] at b; cases b
    | false => rfl
  | _ => rfl
theorem OddN.rp {K : PySem.W.Frag} {p q : Addr} {H : Hp} {v : V} {d : PyData} (h : OddN p q H v d) : Rp K H v d := by
  cases h with
  | str z h => exact .inl (.str _)
  | non => exact .inl .non
  | three => exact .inl (.int _)
  | tt => exact .inl (.bl _)
  | tup h => exact .inl (.tup (.inl (.inl h.e)) (.cons (.str _) .nil))
  | lst h => exact .inl (.lst (.inl (.inl h.e)) (.cons (.str _) .nil))
theorem OddN.ok {p q : Addr} {H : Hp} {v : V} {d : PyData} (h : OddN p q H v d) : okD d = true := by
  cases h with
  | str z h =>
    have a : (["", "A", "a1", "toolongne", "a b"] : List Str).all (fun z => okD (.str z)) = true := by decide +kernel
    exact List.all_eq_true.mp a z h
  | _ => decide +kernel
def spBad : Sp := fun vs H Q _ => ∃ (p q : Addr), vs = [.ref p] ∧ PoolAt H p q ∧ ∀ H' v d, But p q H H' → PoolAt H' p q → OddN p q H' v d → Q v H'
section
variable {P : Program} {w : World} {K : PySem.W.Frag} {mg : Str → Option Value} {base : Heap}
theorem scBad : FnScope ["pool"] ["pool"] (defScope sBad) := ⟨rfl, rfl, rfl, by decide +kernel, rfl, by decide +kernel, by decide +kernel⟩
theorem ok_bad {f fD : Addr} {fd fdD : FuncData} (F : Fun K "_law_bad_name" "_law_bad_name" sBad f fd) (FD : Fun K "_law_draw" "_law_draw" sDraw fD fdD) (bD : Binds K fdD ["pool", "many"] []) (gD : mg "_law_draw" = some (.ref fD))
    (GD : FnOk P w K mg base CX0 2 fD fdD ["pool", "many"] spDraw) : FnOk P w K mg base CX0 3 f fd ["pool"] spBad := by
  refine F.ok scBad (fun vs H Q E h => ?_) (fun cdv A outer s H vs Q E hr h => ?_)
  · obtain ⟨p, q, rfl, _⟩ := h
    rfl
  · obtain ⟨p, q, rfl, hP, k⟩ := h
    refine ⟨_, pss_one (ps_ret (pe_ix ix_list (pe_lst (pa_cons pe_str (pa_cons pe_str (pa_cons pe_str (pa_cons pe_str (pa_cons pe_str (pa_cons pe_non (pa_cons pe_int (pa_cons pe_bl (pa_cons (pe_tup (pa_cons pe_str pa_nil)) (pa_cons (pe_lst (pa_cons pe_str pa_nil)) pa_nil)))))))))))
      (pe_call GD hr rfl gD FD.kp bD .nil pass0 (pa_cons (pv 0) (pa_cons pe_int pa_nil))) (fun _ _ => rfl))), ?_⟩
    refine ⟨(by show 1 ≤ sizeLine; decide), fun t ht => ?_⟩
    have st := Same.new (o := .tup [.str "a"]) ht
    have ft : Sf p q _ t (.tup [.str "a"]) := Sf.new hP ht
    have hP1 := hP.same st
    generalize upd H t (.tup [.str "a"]) = H1 at *
    refine ⟨(by show 1 ≤ sizeLine; decide), fun l hl => ?_⟩
    have sl := Same.new (o := .lst [.str "a"]) hl
    have fl : Sf p q _ l (.lst [.str "a"]) := Sf.new hP1 hl
    have hP2 := hP1.same sl
    have ft2 := ft.same sl
    generalize upd H1 l (.lst [.str "a"]) = H2 at *
    refine ⟨(by show 10 ≤ sizeLine; decide), fun L hL => ?_⟩
    have sL := Same.new (o := .lst [.str "", .str "A", .str "a1", .str "toolongne", .str "a b", .non, .int 3, .bl true, .ref t, .ref l]) hL
    have fL : Sf p q _ L (.lst [.str "", .str "A", .str "a1", .str "toolongne", .str "a b", .non, .int 3, .bl true, .ref t, .ref l]) := Sf.new hP2 hL
    have hP4 := hP2.same sL
    have ft4 := ft2.same sL
    have fl4 := fl.same sL
    have s04 : Same H _ := (st.trans sl).trans sL
    refine ⟨_, rfl, p, q, 10, rfl, hP4, (by decide), (by decide), fun H5 r b5 P5 r0 r9 => ?_⟩
    obtain ⟨j, rfl⟩ := Int.eq_ofNat_of_zero_le r0
    have hb : But p q H H5 := (But.of_same s04).trans b5
    have fL5 := fL.but b5
    have ft5 := ft4.but b5
    have fl5 := fl4.but b5
    have key : ∃ v d', ([.str "", .str "A", .str "a1", .str "toolongne", .str "a b", .non, .int 3, .bl true, .ref t, .ref l] : List V)[j]? = some v ∧ OddN p q H5 v d' := by
      match j, r9 with
      | 0, _ => exact ⟨_, _, rfl, .str _ (by decide +kernel)⟩
      | 1, _ => exact ⟨_, _, rfl, .str _ (by decide +kernel)⟩
      | 2, _ => exact ⟨_, _, rfl, .str _ (by decide +kernel)⟩
      | 3, _ => exact ⟨_, _, rfl, .str _ (by decide +kernel)⟩
      | 4, _ => exact ⟨_, _, rfl, .str _ (by decide +kernel)⟩
      | 5, _ => exact ⟨_, _, rfl, .non⟩
      | 6, _ => exact ⟨_, _, rfl, .three⟩
      | 7, _ => exact ⟨_, _, rfl, .tt⟩
      | 8, _ => exact ⟨_, _, rfl, .tup ft5⟩
      | 9, _ => exact ⟨_, _, rfl, .lst fl5⟩
      | n + 10, h => exact absurd h (by omega)
    obtain ⟨v, d', e1, e2⟩ := key
    exact ⟨L, _, _, v, rfl, rfl, .inl (.inl fL5.e), atI_nat e1, k _ v d' hb P5 e2⟩
end
/-! ### wrong rows -/
abbrev sWrong : Stmt := top 42
def wrongL (m : Nat) : List (List V) := [[.str "go", .int ((m : Int) + 1)], [.str "open"], [.str "use", .str "V"], [.str "jump", .int 0], [.str "set", .str "v"], [.str "go"], [.str "rest", .str "v"], []]
theorem wrong_chk : ∀ m, m < 11 → (wrongL m).all (fun xs => !amongL xs (m : Nat) && xs.all flatS && decide (xs.length ≤ 4) && okD (dRow xs)) = true := by decide +kernel
theorem wrong_ok {m : Nat} {xs : List V} (hm : m ≤ 10) (h : xs ∈ wrongL m) : amongL xs (m : Nat) = false ∧ xs.all flatS = true ∧ xs.length ≤ 4 ∧ okD (dRow xs) = true := by
  have b := List.all_eq_true.mp (wrong_chk m (by omega)) xs h
  simp only [Bool.and_eq_true, decide_eq_true_eq, Bool.not_eq_true'] at b
  exact ⟨b.1.1.1, b.1.1.2, b.1.2, b.2⟩
/-- what is no row of so many -/
inductive WrongR (p q : Addr) (H : Hp) (m : Nat) : V → PyData → Prop
  | non : WrongR p q H m .non .none
  | lst {a : Addr} (h : Sf p q H a (.lst [.str "rest"])) : WrongR p q H m (.ref a) (.list [.str "rest"])
  | tup {a : Addr} {xs : List V} (h : Sf p q H a (.tup xs)) (hx : xs ∈ wrongL m) : WrongR p q H m (.ref a) (dRow xs)
section
variable {p q : Addr} {H H' : Hp} {m : Nat} {v : V} {d : PyData}
theorem WrongR.mv (h : WrongR p q H m v d) (b : Mv p q H H') : WrongR p q H' m v d := by
  cases h with
  | non => exact .non
  | lst h => exact .lst (h.mv b)
  | tup h hx => exact .tup (h.mv b) hx
theorem WrongR.rv (h : WrongR p q H m v d) (hm : m ≤ 10) : RowV H v ∧ amongOf H v (m : Nat) = false := by
  cases h with
  | non => exact ⟨.inl ⟨_, .non, by decide⟩, rfl⟩
  | lst h => exact ⟨.inl ⟨_, .lst h.e, by decide⟩, amongOf_no (rowOf_no (.lst h.e) (by decide))⟩
  | @tup a xs h hx =>
    obtain ⟨w1, w2, w3, w4⟩ := wrong_ok hm hx
    exact ⟨.inr ⟨a, xs, rfl, h.e, by omega, fun x hx => flat_kd (List.all_eq_true.mp w2 x hx)⟩, by rw [amongOf_tup h.e]; exact w1⟩
theorem WrongR.rp {K : PySem.W.Frag} (h : WrongR p q H m v d) (hm : m ≤ 10) : Rp K H v d := by
  cases h with
  | non => exact .inl .non
  | lst h => exact .inl (.lst (.inl (.inl h.e)) (.cons (.str _) .nil))
  | tup h hx => exact .inl (.tup (.inl (.inl h.e)) (flat_dp (wrong_ok hm hx).2.1))
theorem WrongR.ok (h : WrongR p q H m v d) (hm : m ≤ 10) : okD d = true := by
  cases h with
  | non => decide +kernel
  | lst h => decide +kernel
  | tup h hx => exact (wrong_ok hm hx).2.2.2
end
def spWrong : Sp := fun vs H Q _ => ∃ (p q : Addr) (m : Nat), vs = [.ref p, .int (m : Nat)] ∧ PoolAt H p q ∧ m ≤ 10 ∧ ∀ H' v d, But p q H H' → PoolAt H' p q → WrongR p q H' m v d → Q v H'
section
variable {P : Program} {w : World} {K : PySem.W.Frag} {mg : Str → Option Value} {base : Heap}
theorem scWrong : FnScope ["pool", "many", "some"] ["pool", "many"] (defScope sWrong) := ⟨rfl, rfl, rfl, by decide +kernel, rfl, by decide +kernel, by decide +kernel⟩
theorem ok_wrong {f fD : Addr} {fd fdD : FuncData} (F : Fun K "_law_wrong_row" "_law_wrong_row" sWrong f fd) (FD : Fun K "_law_draw" "_law_draw" sDraw fD fdD) (bD : Binds K fdD ["pool", "many"] []) (gD : mg "_law_draw" = some (.ref fD))
    (GD : FnOk P w K mg base CX0 2 fD fdD ["pool", "many"] spDraw) : FnOk P w K mg base CX0 3 f fd ["pool", "many"] spWrong := by
  refine F.ok scWrong (fun vs H Q E h => ?_) (fun cdv A outer s H vs Q E hr h => ?_)
  · obtain ⟨p, q, m, rfl, _⟩ := h
    rfl
  · obtain ⟨p, q, m, rfl, hP, hm, k⟩ := h
    refine ⟨_, pss_cons (ps_set (i := 2) scWrong.nd rfl (.inl rfl) (pe_lst (pa_cons (pe_tup (pa_cons pe_str (pa_cons (pe_op op_add (pv 1) pe_int) pa_nil))) (pa_cons (pe_tup (pa_cons pe_str pa_nil)) (pa_cons (pe_tup (pa_cons pe_str (pa_cons pe_str pa_nil))) (pa_cons (pe_tup (pa_cons pe_str (pa_cons pe_int pa_nil)))
        (pa_cons pe_non (pa_cons (pe_lst (pa_cons pe_str pa_nil)) (pa_cons (pe_tup (pa_cons pe_str (pa_cons pe_str pa_nil))) (pa_cons (pe_tup (pa_cons pe_str pa_nil)) pa_nil))))))))))
      (pss_cons (ps_set (i := 2) scWrong.nd rfl (.inl rfl) (pe_op op_cat (pv 2) (pe_lst (pa_cons (pe_tup (pa_cons pe_str (pa_cons pe_str pa_nil))) (pa_cons (pe_tup pa_nil) pa_nil)))))
      (pss_one (ps_ret (pe_ix ix_list (pv 2) (pe_call GD hr rfl gD FD.kp bD .nil pass0 (pa_cons (pv 0) (pa_cons pe_int pa_nil))) (fun _ _ => rfl))))), ?_⟩
    refine ⟨_, rfl, _, _, rfl, rfl, (by show 2 ≤ sizeLine; decide), fun t1 ht1 => ?_⟩
    have st1 := Same.new (o := .tup [.str "go", .int ((m : Int) + 1)]) ht1
    have ft1 : Sf p q _ t1 (.tup [.str "go", .int ((m : Int) + 1)]) := Sf.new hP ht1
    have Pt1 := hP.same st1
    have St1 := (Same.refl H).trans st1
    generalize upd H t1 (.tup [.str "go", .int ((m : Int) + 1)]) = G1 at *
    refine ⟨(by show 1 ≤ sizeLine; decide), fun t2 ht2 => ?_⟩
    have st2 := Same.new (o := .tup [.str "open"]) ht2
    have ft2 : Sf p q _ t2 (.tup [.str "open"]) := Sf.new Pt1 ht2
    have Pt2 := Pt1.same st2
    replace ft1 := ft1.same st2
    have St2 := St1.trans st2
    generalize upd G1 t2 (.tup [.str "open"]) = G2 at *
    refine ⟨(by show 2 ≤ sizeLine; decide), fun t3 ht3 => ?_⟩
    have st3 := Same.new (o := .tup [.str "use", .str "V"]) ht3
    have ft3 : Sf p q _ t3 (.tup [.str "use", .str "V"]) := Sf.new Pt2 ht3
    have Pt3 := Pt2.same st3
    replace ft1 := ft1.same st3
    replace ft2 := ft2.same st3
    have St3 := St2.trans st3
    generalize upd G2 t3 (.tup [.str "use", .str "V"]) = G3 at *
    refine ⟨(by show 2 ≤ sizeLine; decide), fun t4 ht4 => ?_⟩
    have st4 := Same.new (o := .tup [.str "jump", .int 0]) ht4
    have ft4 : Sf p q _ t4 (.tup [.str "jump", .int 0]) := Sf.new Pt3 ht4
    have Pt4 := Pt3.same st4
    replace ft1 := ft1.same st4
    replace ft2 := ft2.same st4
    replace ft3 := ft3.same st4
    have St4 := St3.trans st4
    generalize upd G3 t4 (.tup [.str "jump", .int 0]) = G4 at *
    refine ⟨(by show 1 ≤ sizeLine; decide), fun l5 hl5 => ?_⟩
    have sl5 := Same.new (o := .lst [.str "rest"]) hl5
    have fl5 : Sf p q _ l5 (.lst [.str "rest"]) := Sf.new Pt4 hl5
    have Pl5 := Pt4.same sl5
    replace ft1 := ft1.same sl5
    replace ft2 := ft2.same sl5
    replace ft3 := ft3.same sl5
    replace ft4 := ft4.same sl5
    have Sl5 := St4.trans sl5
    generalize upd G4 l5 (.lst [.str "rest"]) = G5 at *
    refine ⟨(by show 2 ≤ sizeLine; decide), fun t6 ht6 => ?_⟩
    have st6 := Same.new (o := .tup [.str "set", .str "v"]) ht6
    have ft6 : Sf p q _ t6 (.tup [.str "set", .str "v"]) := Sf.new Pl5 ht6
    have Pt6 := Pl5.same st6
    replace ft1 := ft1.same st6
    replace ft2 := ft2.same st6
    replace ft3 := ft3.same st6
    replace ft4 := ft4.same st6
    replace fl5 := fl5.same st6
    have St6 := Sl5.trans st6
    generalize upd G5 t6 (.tup [.str "set", .str "v"]) = G6 at *
    refine ⟨(by show 1 ≤ sizeLine; decide), fun t7 ht7 => ?_⟩
    have st7 := Same.new (o := .tup [.str "go"]) ht7
    have ft7 : Sf p q _ t7 (.tup [.str "go"]) := Sf.new Pt6 ht7
    have Pt7 := Pt6.same st7
    replace ft1 := ft1.same st7
    replace ft2 := ft2.same st7
    replace ft3 := ft3.same st7
    replace ft4 := ft4.same st7
    replace fl5 := fl5.same st7
    replace ft6 := ft6.same st7
    have St7 := St6.trans st7
    generalize upd G6 t7 (.tup [.str "go"]) = G7 at *
    refine ⟨(by show 8 ≤ sizeLine; decide), fun L1 hL1 => ?_⟩
    have sL1 := Same.new (o := .lst [.ref t1, .ref t2, .ref t3, .ref t4, .non, .ref l5, .ref t6, .ref t7]) hL1
    have fL1 : Sf p q _ L1 (.lst [.ref t1, .ref t2, .ref t3, .ref t4, .non, .ref l5, .ref t6, .ref t7]) := Sf.new Pt7 hL1
    have PL1 := Pt7.same sL1
    replace ft1 := ft1.same sL1
    replace ft2 := ft2.same sL1
    replace ft3 := ft3.same sL1
    replace ft4 := ft4.same sL1
    replace fl5 := fl5.same sL1
    replace ft6 := ft6.same sL1
    replace ft7 := ft7.same sL1
    have SL1 := St7.trans sL1
    generalize upd G7 L1 (.lst [.ref t1, .ref t2, .ref t3, .ref t4, .non, .ref l5, .ref t6, .ref t7]) = G8 at *
    refine ⟨_, rfl, (by show 2 ≤ sizeLine; decide), fun t8 ht8 => ?_⟩
    have st8 := Same.new (o := .tup [.str "rest", .str "v"]) ht8
    have ft8 : Sf p q _ t8 (.tup [.str "rest", .str "v"]) := Sf.new PL1 ht8
    have Pt8 := PL1.same st8
    replace ft1 := ft1.same st8
    replace ft2 := ft2.same st8
    replace ft3 := ft3.same st8
    replace ft4 := ft4.same st8
    replace fl5 := fl5.same st8
    replace ft6 := ft6.same st8
    replace ft7 := ft7.same st8
    replace fL1 := fL1.same st8
    have St8 := SL1.trans st8
    generalize upd G8 t8 (.tup [.str "rest", .str "v"]) = G9 at *
    refine ⟨(by show 0 ≤ sizeLine; decide), fun t9 ht9 => ?_⟩
    have st9 := Same.new (o := .tup []) ht9
    have ft9 : Sf p q _ t9 (.tup []) := Sf.new Pt8 ht9
    have Pt9 := Pt8.same st9
    replace ft1 := ft1.same st9
    replace ft2 := ft2.same st9
    replace ft3 := ft3.same st9
    replace ft4 := ft4.same st9
    replace fl5 := fl5.same st9
    replace ft6 := ft6.same st9
    replace ft7 := ft7.same st9
    replace fL1 := fL1.same st9
    replace ft8 := ft8.same st9
    have St9 := St8.trans st9
    generalize upd G9 t9 (.tup []) = G10 at *
    refine ⟨(by show 2 ≤ sizeLine; decide), fun L2 hL2 => ?_⟩
    have sL2 := Same.new (o := .lst [.ref t8, .ref t9]) hL2
    have fL2 : Sf p q _ L2 (.lst [.ref t8, .ref t9]) := Sf.new Pt9 hL2
    have PL2 := Pt9.same sL2
    replace ft1 := ft1.same sL2
    replace ft2 := ft2.same sL2
    replace ft3 := ft3.same sL2
    replace ft4 := ft4.same sL2
    replace fl5 := fl5.same sL2
    replace ft6 := ft6.same sL2
    replace ft7 := ft7.same sL2
    replace fL1 := fL1.same sL2
    replace ft8 := ft8.same sL2
    replace ft9 := ft9.same sL2
    have SL2 := St9.trans sL2
    generalize upd G10 L2 (.lst [.ref t8, .ref t9]) = G11 at *
    refine ⟨L1, L2, _, _, rfl, rfl, fL1.e, fL2.e, (by show 10 ≤ sizeLine; decide), fun W hW => ?_⟩
    have sW := Same.new (o := .lst ([.ref t1, .ref t2, .ref t3, .ref t4, .non, .ref l5, .ref t6, .ref t7] ++ [.ref t8, .ref t9])) hW
    have fW : Sf p q _ W (.lst ([.ref t1, .ref t2, .ref t3, .ref t4, .non, .ref l5, .ref t6, .ref t7] ++ [.ref t8, .ref t9])) := Sf.new PL2 hW
    have PW := PL2.same sW
    replace ft1 := ft1.same sW
    replace ft2 := ft2.same sW
    replace ft3 := ft3.same sW
    replace ft4 := ft4.same sW
    replace fl5 := fl5.same sW
    replace ft6 := ft6.same sW
    replace ft7 := ft7.same sW
    replace fL1 := fL1.same sW
    replace ft8 := ft8.same sW
    replace ft9 := ft9.same sW
    replace fL2 := fL2.same sW
    have SW := SL2.trans sW
    generalize upd G11 W (.lst ([.ref t1, .ref t2, .ref t3, .ref t4, .non, .ref l5, .ref t6, .ref t7] ++ [.ref t8, .ref t9])) = G12 at *
    refine ⟨_, rfl, _, rfl, p, q, 10, rfl, PW, by decide, by decide, fun H5 r b5 P5 r0 r10 => ?_⟩
    obtain ⟨j, rfl⟩ := Int.eq_ofNat_of_zero_le r0
    have key : ∃ v d, ([V.ref t1, .ref t2, .ref t3, .ref t4, .non, .ref l5, .ref t6, .ref t7] ++ [.ref t8, .ref t9])[j]? = some v ∧ WrongR p q H5 m v d := by
      match j, r10 with
      | 0, _ => exact ⟨_, _, rfl, .tup (ft1.but b5) (List.mem_cons_self ..)⟩
      | 1, _ => exact ⟨_, _, rfl, .tup (ft2.but b5) (by simp [wrongL])⟩
      | 2, _ => exact ⟨_, _, rfl, .tup (ft3.but b5) (by simp [wrongL])⟩
      | 3, _ => exact ⟨_, _, rfl, .tup (ft4.but b5) (by simp [wrongL])⟩
      | 4, _ => exact ⟨_, _, rfl, .non⟩
      | 5, _ => exact ⟨_, _, rfl, .lst (fl5.but b5)⟩
      | 6, _ => exact ⟨_, _, rfl, .tup (ft6.but b5) (by simp [wrongL])⟩
      | 7, _ => exact ⟨_, _, rfl, .tup (ft7.but b5) (by simp [wrongL])⟩
      | 8, _ => exact ⟨_, _, rfl, .tup (ft8.but b5) (by simp [wrongL])⟩
      | 9, _ => exact ⟨_, _, rfl, .tup (ft9.but b5) (by simp [wrongL])⟩
      | n + 10, h => exact absurd h (by omega)
    obtain ⟨v, d, e1, e2⟩ := key
    exact ⟨W, _, _, v, rfl, rfl, .inl (.inl (fW.but b5).e), atI_nat e1, k _ v d ((But.of_same SW).trans b5) P5 e2⟩
end
/-! ### != of an instance and a tuple, by an own __eq__ -/
section
variable {prog : Program} {w : World} {A : Around} {E : Value → Shared → Prop} {s : Shared} {K : PySem.W.Frag} {x C f : Addr} {ox : Obj} {od : Option Obj} {y : Addr}
theorem richNeT_K {tb : Value} {Q : Value → Shared → Prop} (hu : A.units + 1 < cLine) (X : K.In s.heap) (T : NeC K C) (I : PySem.W.InstAt s.heap x ox C od) (hb : PySem.W.Looks (model prog w) s.heap (typeOf (.ref y)) tb) (hn : PySem.W.notFirst K C tb = true)
    (hs : PySem.W.findIn K (.ref C) "__eq__" = some (some (.ref f))) (hf : PySem.W.isFn K (.ref f) = true)
    (hcall : wpAny (model prog w) A.in1 (call (.ref f) [.ref x, .ref y]) (fun v s' => ∃ b, v = .bool b ∧ Q (.bool (!b)) s') E s) :
    wpAny (model prog w) A (richCompare .NotEq (.ref x) (.ref y)) Q E s := by
  obtain ⟨nm, q, N, bs, hdct, sn, sub, ab, col, dd, k0, k1, k2, k3, k5, newId, hC⟩ := T.cls
  have hx := I.at_
  have hc := I.cls
  have one : wpAny (model prog w) A (tryCompare (.ref x) "__ne__" (.ref y)) (fun r s' => ∃ v, r = some v ∧ Q v s') E s := by
    simp only [tryCompare]
    refine wpAny_bind (ifBound_B X I T.ne PySem.F.cmp_object.ne (wpAny_call (codeAny_call_builtin PySem.F.cmp_object.ne.plain PySem.F.cmpEntry_ne
      (wpAny_check_slot_inst (h := s.heap) (g := s.gens) (d := s.drawn) (t := s.toks) (os := s.os) PySem.F.cmpKind_ne PySem.F.cmpSplit_ne (PySem.F.cmpArgs_ne _ _) PySem.F.cmp_object.hasObject hx hc (X _ _ hC)
        (objNe_K (A := A.in1) hu X I hs hf (wpAny_mono hcall (fun v s' hv => ?_) fun _ _ e => e))))))
    obtain ⟨b, rfl, hq⟩ := hv
    first | exact ⟨b, rfl, _, rfl, hq⟩ | exact ⟨b, rfl, wpAny_pure ⟨_, rfl, hq⟩⟩ | exact ⟨b, rfl, wpAny_pure (wpAny_pure ⟨_, rfl, hq⟩)⟩
  unfold richCompare
  simp only [oneThing_ref]
  refine wpAny_holding ?_
  refine wpAny_bind (wpAny_cRoomFor (Nat.lt_of_succ_lt hu) ?_)
  rw [cmpInfo_NotEq]
  dsimp only
  refine wpAny_bind (I.type.here (wpAny_bind (hb.here ?_)))
  split
  · rename_i q
    have e : PySem.W.subIn K tb (.ref C) = some false := by
      rcases Bool.or_eq_true_iff.mp hn with e | e
      · rw [beq_iff_eq.mp e] at q; simp at q
      · exact beq_iff_eq.mp e
    refine wpAny_bind ((PySem.W.looks_subIn X e).here ?_)
    simp only [Bool.false_eq_true, if_false]
    refine wpAny_bind (wpAny_mono one (fun r s' z => ?_) fun _ _ e => e)
    obtain ⟨v, rfl, hq⟩ := z
    exact wpAny_pure hq
  · refine wpAny_bind (wpAny_pure ?_)
    simp only [Bool.false_eq_true, if_false]
    refine wpAny_bind (wpAny_mono one (fun r s' z => ?_) fun _ _ e => e)
    obtain ⟨v, rfl, hq⟩ := z
    exact wpAny_pure hq
end
def rNeT (K : PySem.W.Frag) (C : Addr) (sp : Sp) (E : XK) : R2 := fun x y H Q => ∃ a dx fs b xs, x = .ref a ∧ y = .ref b ∧ H a = some (.ins C dx fs) ∧ SqT K H b xs ∧ sp [x, y] H (fun z H' => ∃ k, z = .bl k ∧ Q (.bl (!k)) H') E
section
variable {X : Cx} {CX : CXT} {n : Nat} {f C : Addr} {fd : FuncData} {ps : List Str} {sp : Sp} {E : XK}
theorem op_neT (F : FnOk X.prog X.w X.K X.mg X.base CX n f fd ps sp) (T : EqC X.K C f) (N : NeC X.K C) (hb : Binds X.K fd ps []) (hr : Room (n + 1) X.A) (hx : Passes CX X E) : OpR X (compareOp .NotEq) (rNeT X.K C sp E) := by
  intro pins s σ H x y v u Q I rx ry h
  obtain ⟨a, dx, fs, b, xs, rfl, rfl, ha, hbb, hsp⟩ := h
  cases rx
  cases ry
  obtain ⟨mA, J, _⟩ := ins_get I.hok ha
  obtain ⟨od, J, _⟩ := J.look
  obtain ⟨its, r, ⟨o, ho, hc, n', hd⟩, hs⟩ := I.tuple (X := X) hbb
  have hl := F.len _ _ _ _ hsp
  show wpAny (model X.prog X.w) X.A (richCompare .NotEq (.ref a) (.ref b)) (EP X pins σ Q) X.xe s
  refine richNeT_K (tb := .type "tuple") (by have := hr.un; omega) I.kIn N J (PySem.W.kitx_tuple.ty _ _ I.kIn ⟨_, ho, hc⟩) T.n3 T.eq T.fn ?_
  have r2 : Vals [V.ref a, V.ref b] [Value.ref a, Value.ref b] := .cons rfl (.cons rfl .nil)
  refine wpAny_call (codeAny_mono (F.run X.A.in1 X.stack s H ⟨[.ref a, .ref b], []⟩ [.ref a, .ref b] [.ref a, .ref b] _ E hr.in1 I.env0.in1 (by
    have := hb s [.ref a, .ref b] I.kIn (by simpa using hl)
    simpa using this) r2 hsp) fun r s' hq => ?_)
  cases r with
  | error e => exact hx pins σ H s e s' I hq
  | ok fl =>
    cases fl with
    | ret w =>
      obtain ⟨z, H', I', rz, k, ez, qz⟩ := I.after hq
      subst ez
      cases rz
      exact ⟨k, rfl, .bl (!k), H', I', rfl, qz⟩
    | next => exact False.elim hq
    | brk => exact False.elim hq
    | cont => exact False.elim hq
end
/-! ### lists of data -/
theorem dpAll_app {K : PySem.W.Frag} {H : Hp} : ∀ {xs ys : List V} {ds es : List PyData}, DpAll K H xs ds → DpAll K H ys es → DpAll K H (xs ++ ys) (ds ++ es)
  | [], _, _, _, .nil, h => h
  | _ :: _, _, _, _, .cons a r, h => .cons a (dpAll_app r h)
theorem dpAll_take {K : PySem.W.Frag} {H : Hp} : ∀ (i : Nat) {xs : List V} {ds : List PyData}, DpAll K H xs ds → DpAll K H (xs.take i) (ds.take i)
  | 0, _, _, _ => .nil
  | i + 1, [], _, .nil => .nil
  | i + 1, _ :: _, _, .cons a r => .cons a (dpAll_take i r)
theorem dpAll_drop {K : PySem.W.Frag} {H : Hp} : ∀ (i : Nat) {xs : List V} {ds : List PyData}, DpAll K H xs ds → DpAll K H (xs.drop i) (ds.drop i)
  | 0, _, _, h => h
  | i + 1, [], _, .nil => .nil
  | i + 1, _ :: _, _, .cons _ r => dpAll_drop i r
theorem dpAll_at {K : PySem.W.Frag} {H : Hp} : ∀ {i : Nat} {xs : List V} {ds : List PyData} {v : V}, DpAll K H xs ds → xs[i]? = some v → ∃ d, ds[i]? = some d ∧ Dp K H v d
  | 0, _ :: _, _, _, .cons a _, h => by cases h; exact ⟨_, rfl, a⟩
  | i + 1, _ :: _, _, _, .cons _ r, h => dpAll_at (i := i) r h
def setD (ds : List PyData) (i : Nat) (d : PyData) : List PyData := ds.take i ++ [d] ++ ds.drop (i + 1)
theorem dpAll_set {K : PySem.W.Frag} {H : Hp} {xs : List V} {ds : List PyData} {v : V} {d : PyData} (i : Nat) (h : DpAll K H xs ds) (hv : Dp K H v d) : DpAll K H (setL xs i v) (setD ds i d) :=
  dpAll_app (dpAll_app (dpAll_take i h) (.cons hv .nil)) (dpAll_drop (i + 1) h)
/-- each can be laid out, and is not deep -/
def LayL (ds : List PyData) : Prop := ∀ d ∈ ds, d.canLay0 = true ∧ d.depth ≤ 5
theorem LayL.set {ds : List PyData} {d : PyData} (i : Nat) (h : LayL ds) (hd : d.canLay0 = true ∧ d.depth ≤ 5) : LayL (setD ds i d) := fun e he => by
  unfold setD at he
  rcases List.mem_append.mp he with he | he
  · rcases List.mem_append.mp he with he | he
    · exact h e (List.mem_of_mem_take he)
    · rw [List.mem_singleton.mp he]
      exact hd
  · exact h e (List.mem_of_mem_drop he)
theorem LayL.all : ∀ {ds : List PyData}, LayL ds → PyData.canLayAll0 ds = true ∧ PyData.depthAll ds ≤ 5
  | [], _ => ⟨rfl, Nat.zero_le _⟩
  | d :: ds, h => by
    obtain ⟨a, b⟩ := LayL.all (ds := ds) fun e he => h e (List.mem_cons_of_mem _ he)
    obtain ⟨c, e⟩ := h d (List.mem_cons_self ..)
    refine ⟨?_, ?_⟩
    · show (d.canLay0 && PyData.canLayAll0 ds) = true
      rw [a, c]
      rfl
    · show max d.depth (PyData.depthAll ds) ≤ 5
      exact Nat.max_le.mpr ⟨e, b⟩
theorem LayL.tup {ds : List PyData} (h : LayL ds) : SeqAt.shaped (.tuple ds) = true ∧ PyData.eqv (.tuple ds) (.tuple ds) = true := by
  obtain ⟨a, b⟩ := h.all
  refine ⟨?_, SeqAt.eqv_refl _ a⟩
  unfold SeqAt.shaped
  rw [show (PyData.tuple ds).canLay0 = true from a, decide_eq_true (show (PyData.tuple ds).depth ≤ 64 from by show PyData.depthAll ds + 1 ≤ 64; omega)]
  rfl
theorem LayL.lst {ds : List PyData} (h : LayL ds) : SeqAt.shaped (.list ds) = true ∧ PyData.eqv (.list ds) (.list ds) = true := by
  obtain ⟨a, b⟩ := h.all
  refine ⟨?_, SeqAt.eqv_refl _ a⟩
  unfold SeqAt.shaped
  rw [show (PyData.list ds).canLay0 = true from a, decide_eq_true (show (PyData.list ds).depth ≤ 64 from by show PyData.depthAll ds + 1 ≤ 64; omega)]
  rfl
theorem shaped_of {d : PyData} (h : d.canLay0 = true ∧ d.depth ≤ 5) : SeqAt.shaped d = true := by
  unfold SeqAt.shaped
  rw [h.1, decide_eq_true (Nat.le_trans h.2 (by decide))]
  rfl
theorem eqv_set : ∀ {ds : List PyData} {i : Nat} {d d0 : PyData}, ds[i]? = some d0 → PyData.eqv d d0 = false → PyData.eqvAll (setD ds i d) ds = false
  | x :: r, 0, d, d0, h, e => by
    have h' : x = d0 := Option.some.inj h
    subst h'
    show (PyData.eqv d x && PyData.eqvAll r r) = false
    rw [e]
    rfl
  | x :: r, i + 1, d, d0, h, e => by
    show (PyData.eqv x x && PyData.eqvAll (setD r i d) r) = false
    rw [eqv_set (ds := r) (i := i) h e, Bool.and_false]
/-! ### rows, own variables, names as they are drawn -/
theorem paired_imp {α β : Type} {F G : α → β → Prop} (i : ∀ a b, F a b → G a b) {xs : List α} {ys : List β} (h : Paired F xs ys) : Paired G xs ys := by
  induction h with
  | nil => exact .nil
  | cons a _ ih => exact .cons (i _ _ a) ih
theorem rows_dp {K : PySem.W.Frag} {p q : Addr} {H : Hp} {m : Nat} {rs : List V} {xss : List (List V)} (h : Paired (RowAt p q H m) rs xss) (hm : m ≤ 10) : DpAll K H rs (xss.map dRow) := by
  induction h with
  | nil => exact .nil
  | cons a _ ih => exact .cons (a.dp hm) ih
theorem rows_lay {p q : Addr} {H : Hp} {m : Nat} {rs : List V} {xss : List (List V)} (h : Paired (RowAt p q H m) rs xss) (hm : m ≤ 10) : LayL (xss.map dRow) := by
  induction h with
  | nil => exact fun _ h => nomatch h
  | @cons v xs _ _ a _ ih =>
    intro d hd
    rcases List.mem_cons.mp hd with rfl | hd
    · obtain ⟨t, _, _, r⟩ := a
      have g := row_good hm r
      exact ⟨g.cl, Nat.le_trans g.de (by decide)⟩
    · exact ih d hd
theorem rows_rv {p q : Addr} {H : Hp} {m : Nat} {rs : List V} {xss : List (List V)} (h : Paired (RowAt p q H m) rs xss) (hm : m ≤ 10) : ∀ y ∈ rs, RowV H y ∧ amongOf H y (m : Nat) = true := by
  induction h with
  | nil => exact fun _ h => nomatch h
  | cons a _ ih =>
    intro y hy
    rcases List.mem_cons.mp hy with rfl | hy
    · exact a.rv hm
    · exact ih y hy
theorem rows_mem {p q : Addr} {H : Hp} {m : Nat} {rs : List V} {xss : List (List V)} (h : Paired (RowAt p q H m) rs xss) : ∀ xs ∈ xss, xs ∈ rowsAll m := by
  induction h with
  | nil => exact fun _ h => nomatch h
  | cons a _ ih =>
    intro y hy
    rcases List.mem_cons.mp hy with rfl | hy
    · obtain ⟨t, _, _, r⟩ := a
      exact r
    · exact ih y hy
theorem rows_mv {p q : Addr} {H H' : Hp} {m : Nat} {rs : List V} {xss : List (List V)} (h : Paired (RowAt p q H m) rs xss) (b : Mv p q H H') : Paired (RowAt p q H' m) rs xss := paired_imp (fun _ _ q => q.mv b) h
theorem zz_chk : ∀ m, m < 11 → (rowsAll m).all (fun xs => !PyData.eqv (dRow xs) (dRow [.str "use", .str "zz"]) && !PyData.eqv (dRow [.str "close", .str "zz"]) (dRow xs) && !PyData.eqv (dRow xs) (dRow [.str "close", .str "zz"])) = true := by decide +kernel
theorem zz_no {m : Nat} {xs : List V} (hm : m ≤ 10) (h : xs ∈ rowsAll m) : PyData.eqv (dRow xs) (dRow [.str "use", .str "zz"]) = false ∧ PyData.eqv (dRow [.str "close", .str "zz"]) (dRow xs) = false ∧ PyData.eqv (dRow xs) (dRow [.str "close", .str "zz"]) = false := by
  have b := List.all_eq_true.mp (zz_chk m (by omega)) xs h
  simp only [Bool.and_eq_true, Bool.not_eq_true'] at b
  exact ⟨b.1.1, b.1.2, b.2⟩
def ownsL : List (List V) := [[], [.str "v"], [.str "v", .str "w"]]
structure OwnG (os : List V) : Prop where
  fl : os.all flatS = true
  an : areNames os 2 = true
  lay : LayL (os.map fdV)
  ne : PyData.eqv (.tuple (os.map fdV)) (.tuple [.str "zz"]) = false
  ln : os.length ≤ 2
theorem own_good {os : List V} (h : os ∈ ownsL) : OwnG os := by
  have lay : ∀ os ∈ ownsL, LayL (os.map fdV) := by
    intro os ho d hd
    obtain ⟨v, hv, rfl⟩ := List.mem_map.mp hd
    have a : ownsL.all (fun os => os.all fun v => (fdV v).canLay0 && decide ((fdV v).depth ≤ 5)) = true := by decide +kernel
    have b := List.all_eq_true.mp (List.all_eq_true.mp a os ho) v hv
    rw [Bool.and_eq_true, decide_eq_true_eq] at b
    exact b
  have a : ownsL.all (fun os => os.all flatS && areNames os 2 && !PyData.eqv (.tuple (os.map fdV)) (.tuple [.str "zz"]) && decide (os.length ≤ 2)) = true := by decide +kernel
  have b := List.all_eq_true.mp a os h
  simp only [Bool.and_eq_true, Bool.not_eq_true', decide_eq_true_eq] at b
  exact ⟨b.1.1.1, b.1.1.2, lay os h, b.1.2, b.2⟩
def namesZ : List Str := ["s", "so", "sor", "sort"]
theorem name_good {z : Str} (h : z ∈ namesZ) : nameOk z = true ∧ z.length ≤ 8 ∧ nameOk (z ++ "x") = true ∧ (z ++ "x").length ≤ 9 ∧ z ≠ z ++ "x" := by
  have a : namesZ.all (fun z => nameOk z && decide (z.length ≤ 8) && nameOk (z ++ "x") && decide ((z ++ "x").length ≤ 9) && !decide (z = z ++ "x")) = true := by decide +kernel
  have b := List.all_eq_true.mp a z h
  simp only [Bool.and_eq_true, Bool.not_eq_true', decide_eq_true_eq, decide_eq_false_iff_not] at b
  exact ⟨b.1.1.1.1, b.1.1.1.2, b.1.1.2, b.1.2, b.2⟩
theorem sqT_mv {K : PySem.W.Frag} {p q a : Addr} {H H' : Hp} {xs : List V} (h : SqT K H a xs) (hP : PoolAt H p q) (b : Mv p q H H') : SqT K H' a xs := by
  obtain ⟨ns, i, y, z, w, h1, h2, _⟩ := hP
  have far : ∀ o, H a = some o → (∀ ys, o ≠ .lst ys) → (∀ ps, o ≠ .tbl ps) → H' a = some o := fun o e n1 n2 => b _ _ (fun z => n1 _ (by rw [z, h1] at e; exact (Option.some.inj e).symm)) (fun z => n1 _ (by rw [z, h2] at e; exact (Option.some.inj e).symm)) n2 e
  rcases h with (h | ⟨o, h⟩) | h
  · exact .inl (.inl (far _ h (fun _ e => by cases e) (fun _ e => by cases e)))
  · exact .inl (.inr ⟨o, far _ h (fun _ e => by cases e) (fun _ e => by cases e)⟩)
  · exact .inr h
theorem SortAt.mv {K : PySem.W.Frag} {p q : Addr} {H H' : Hp} {C x dx : Addr} {nm : V} {pr po : Addr} {rs os : List V} (h : SortAt K H C x dx nm pr po rs os) (hP : PoolAt H p q) (b : Mv p q H H') : SortAt K H' C x dx nm pr po rs os := by
  refine ⟨?_, sqT_mv h.rows hP b, sqT_mv h.own hP b⟩
  have n1 := h.ins
  obtain ⟨ns, i, y, z, w, h1, h2, _⟩ := hP
  exact b _ _ (fun z => by rw [z, h1] at n1; cases n1) (fun z => by rw [z, h2] at n1; cases n1) (fun _ e => by cases e) n1
abbrev sRight : Stmt := top 43
def nameR : Str := "_law_right" ++ ".<locals>." ++ "<lambda>"
def nameL : Str := "law" ++ ".<locals>." ++ "<lambda>"
abbrev TT2 (PT0 PT1 : Addr) : List (Addr × Str) := [(PT0, nameR), (PT1, nameL)]
theorem tt2_first {PT0 PT1 : Addr} (hne : PT0 ≠ PT1) : ∀ r ∈ TT2 PT0 PT1, r.1 = PT0 → r.2 = nameR := fun r hr e => by
  rcases List.mem_cons.mp hr with rfl | hr
  · rfl
  · rw [List.mem_singleton.mp hr] at e
    exact absurd e.symm hne
theorem tt2_second {PT0 PT1 : Addr} (hne : PT0 ≠ PT1) : ∀ r ∈ TT2 PT0 PT1, r.1 = PT1 → r.2 = nameL := fun r hr e => by
  rcases List.mem_cons.mp hr with rfl | hr
  · exact absurd e hne
  · rw [List.mem_singleton.mp hr]
abbrev rLenS (K : PySem.W.Frag) : List V → Hp → VK → Prop := fun xs H Q => ∃ p ys, xs = [.ref p] ∧ (SqL K H p ys ∨ SqT K H p ys) ∧ Q (.int ys.length) H
structure RTxt (mg : Str → Option Value) : Prop where
  repr : mg "repr" = none
def spRight (T : List (Addr × Str)) : Sp := fun vs H Q _ => ∃ (p q R M : Addr) (z : Str) (rs os : List V) (xss : List (List V)), vs = [.ref p, .str z, .ref R, .ref M] ∧ PoolAt H p q ∧ LamX.Tabs T H ∧ Sf p q H R (.lst rs) ∧ Sf p q H M (.lst os) ∧ Paired (RowAt p q H rs.length) rs xss ∧
  1 ≤ rs.length ∧ rs.length ≤ 10 ∧ os ∈ ownsL ∧ z ∈ namesZ ∧ ∀ H', Mv p q H H' → PoolAt H' p q → LamX.Tabs T H' → Q (.bl true) H'
structure RS (K : PySem.W.Frag) (T : List (Addr × Str)) (p q C x dx pr po R M : Addr) (z : Str) (rs os : List V) (xss : List (List V)) (H0 H : Hp) : Prop where
  mv : Mv p q H0 H
  pool : PoolAt H p q
  tabs : LamX.Tabs T H
  rows : Sf p q H R (.lst rs)
  mine : Sf p q H M (.lst os)
  pd : Paired (RowAt p q H rs.length) rs xss
  made : SortAt K H C x dx (.str z) pr po rs os
section
variable {K : PySem.W.Frag} {T : List (Addr × Str)} {p q C x dx pr po R M : Addr} {z : Str} {rs os : List V} {xss : List (List V)} {H0 H H' : Hp}
theorem RS.step (h : RS K T p q C x dx pr po R M z rs os xss H0 H) (m : Mv p q H H') (P : PoolAt H' p q) (t : LamX.Tabs T H') : RS K T p q C x dx pr po R M z rs os xss H0 H' :=
  ⟨h.mv.trans m, P, t, h.rows.mv m, h.mine.mv m, rows_mv h.pd m, h.made.mv h.pool m⟩
theorem RS.ext (h : RS K T p q C x dx pr po R M z rs os xss H0 H) (m : LamX.ExtN H H') (t : LamX.Tabs T H') : RS K T p q C x dx pr po R M z rs os xss H0 H' := h.step (.ext m) (h.pool.ext m) t
theorem RS.same (h : RS K T p q C x dx pr po R M z rs os xss H0 H) (m : Same H H') : RS K T p q C x dx pr po R M z rs os xss H0 H' := h.ext (.of m) (h.tabs.ext m)
theorem RS.but (h : RS K T p q C x dx pr po R M z rs os xss H0 H) (m : But p q H H') (P : PoolAt H' p q) : RS K T p q C x dx pr po R M z rs os xss H0 H' := h.step (.but m) P (tabs_but h.pool h.tabs m)
theorem RS.good (h : RS K T p q C x dx pr po R M z rs os xss H0 H) (l1 : 1 ≤ rs.length) (l10 : rs.length ≤ 10) (ho : os ∈ ownsL) (hz : z ∈ namesZ) : GoodS H z rs os :=
  ⟨(name_good hz).1, Nat.le_trans (name_good hz).2.1 (by decide), l1, l10, fun y hy => (rows_rv h.pd l10 y hy).1, fun y hy => (rows_rv h.pd l10 y hy).2, (own_good ho).an⟩
end
theorem ifEq {A B : Prop} {d e : PyData} (h : PyData.eqv d e = true) (hb : B) : if (!PyData.eqv d e) = true then A else B := by
  rw [h]
  exact hb
theorem ifNe {A B : Prop} {s t : Str} (h : s = t) (hb : B) : if (!decide (V.str s = V.str t)) = true then A else B := by
  rw [h, decide_eq_true rfl]
  exact hb
theorem row_of_among {H : Hp} {v : V} {m : Int} (h : amongOf H v m = true) : rowOf H v = true := by
  cases q : rowOf H v with
  | true => rfl
  | false => rw [amongOf_no q] at h; cases h
section
variable {P : Program} {w : World} {K : PySem.W.Frag} {mg : Str → Option Value} {base : Heap}
theorem scRight : FnScope ["pool", "name", "rows", "mine", "row", "odd", "later", "at", "made", "wrong", "k"] ["pool", "name", "rows", "mine"] (defScope sRight) := ⟨rfl, rfl, rfl, by decide +kernel, rfl, by decide +kernel, by decide +kernel⟩
set_option maxHeartbeats 16000000 in
theorem ok_right {f fD fWr fT fNm fRw fOw pNm pRw pOw fI fH fLn fE fC fW g C cC PT0 PT1 cH : Addr} {cs : List Addr} {fdD fdWr fdT fdNm fdRw fdOw fdI fdH fdLn fdE fdC fdW : FuncData}
    {oc kV doc pm ct : Value} {od an : Option Addr} {osl : Array (Option Value)} {oc' kV' doc' pm' cdv' ct' : Value} {od' an' : Option Addr} {osl' : Array (Option Value)}
    (lk : K.lookup f = some ⟨oc, od, .func (PySem.W.fnOf "_law_right" "_law_right" (defArgs sRight) (defBody sRight) (defScope sRight) .none kV doc pm an (.ref cC) ct), osl⟩) (hcd : PySem.W.codeIn K (.ref cC) "_law_right" = true)
    (T : HTxt K mg cH cs) (TX : RTxt mg) (PT : PTxt mg) (MT : MTxt K mg) (S : SCls K C) (gS : mg "Sort" = some (.ref C)) (TB : LamX.TabB base mg cC PT0) (hne : PT0 ≠ PT1)
    (FD : Fun K "_law_draw" "_law_draw" sDraw fD fdD) (bD : Binds K fdD ["pool", "many"] []) (gD : mg "_law_draw" = some (.ref fD)) (GD : FnOk P w K mg base CX0 2 fD fdD ["pool", "many"] spDraw)
    (FWr : Fun K "_law_wrong_row" "_law_wrong_row" sWrong fWr fdWr) (bWr : Binds K fdWr ["pool", "many"] []) (gWr : mg "_law_wrong_row" = some (.ref fWr)) (GWr : FnOk P w K mg base CX0 3 fWr fdWr ["pool", "many"] spWrong)
    (MH : Mk K C fT) (GT : FnOk P w K mg base (L2.CX P w) 4 fT fdT ["self", "name", "rows", "own"] (spSort K C (cs.getD 1 0) (cs.getD 2 0))) (kb : KBn K fdT ["self", "name", "rows", "own"] 3 ["own"] (fun us ws => us ++ ws) (fun vs zs => vs ++ zs))
    (pNm : PropOf K C "name" pNm fNm) (GNm : FnOk P w K mg base CX0 1 fNm fdNm ["self"] (spGet K "_name")) (bNm : Binds K fdNm ["self"] [])
    (pRw : PropOf K C "rows" pRw fRw) (GRw : FnOk P w K mg base CX0 1 fRw fdRw ["self"] (spGet K "_rows")) (bRw : Binds K fdRw ["self"] [])
    (pOw : PropOf K C "own" pOw fOw) (GOw : FnOk P w K mg base CX0 1 fOw fdOw ["self"] (spGet K "_own")) (bOw : Binds K fdOw ["self"] [])
    (hsI : PySem.W.findIn K (.ref C) "__getitem__" = some (some (.ref fI))) (hfI : PySem.W.fnIn K fI = true) (hfnI : PySem.W.isFn K (.ref fI) = true) (GI : FnOk P w K mg base (L2.CX P w) 3 fI fdI ["self", "at"] (spItem K C (cs.getD 0 0))) (bI : Binds K fdI ["self", "at"] [])
    (hsH : PySem.W.findIn K (.ref C) "__contains__" = some (some (.ref fH))) (hfnH : PySem.W.isFn K (.ref fH) = true) (GH : FnOk P w K mg base CX0 3 fH fdH ["self", "x"] (spHas K C)) (bH : Binds K fdH ["self", "x"] [])
    (hsLn : PySem.W.findIn K (.ref C) "__len__" = some (some (.ref fLn))) (hfnLn : PySem.W.isFn K (.ref fLn) = true) (GLn : FnOk P w K mg base CX0 1 fLn fdLn ["self"] (spLen K C)) (bLn : Binds K fdLn ["self"] [])
    (GE : FnOk P w K mg base CX0 1 fE fdE ["self", "other"] (spEq K C)) (EC : EqC K C fE) (NC : NeC K C) (bE : Binds K fdE ["self", "other"] [])
    (MC : Meth K C "changed" fC) (GC : FnOk P w K mg base (L2.CX P w) 6 fC fdC ["self", "at", "row"] (spChg K C (cs.getD 0 0) (cs.getD 2 0))) (bC : Binds K fdC ["self", "at", "row"] [])
    (FW : Fun K "_law_which" "_law_which" sWhich fW fdW) (bW : Binds K fdW ["error"] []) (gW : mg "_law_which" = some (.ref fW))
    (gCt : mg "_law_caught" = some (.ref g)) (kCt : PySem.W.keepIn K (.ref g) = true)
    (lkC : K.lookup g = some ⟨oc', od', .func (PySem.W.fnOf "_law_caught" "_law_caught" (defArgs sCaught) (defBody sCaught) (defScope sCaught) .none kV' doc' pm' an' cdv' ct'), osl'⟩) (hcC : PySem.W.codeIn K cdv' "_law_caught" = true)
    (bCt : Binds K (PySem.W.fnOf "_law_caught" "_law_caught" (defArgs sCaught) (defBody sCaught) (defScope sCaught) .none kV' doc' pm' an' cdv' ct') ["call"] []) :
    FnG P w K mg base CX0 9 f (PySem.W.fnOf "_law_right" "_law_right" (defArgs sRight) (defBody sRight) (defScope sRight) .none kV doc pm an (.ref cC) ct) ["pool", "name", "rows", "mine"] (spRight (TT2 PT0 PT1)) := by
  refine fnG_okC lk hcd scRight (fun vs H Q E h => ?_) (fun A outer s H vs Q E hg hr h => ?_)
  · obtain ⟨p, q, R, M, z, rs, os, xss, rfl, _⟩ := h
    rfl
  · obtain ⟨p, q, R, M, z, rs, os, xss, rfl, hP, hT, hR, hM, hpd, l1, l10, hos, hzn, k⟩ := h
    have hgX : (cxOf CX0 P w K mg base ["pool", "name", "rows", "mine", "row", "odd", "later", "at", "made", "wrong", "k"] "_law_right" (defScope sRight) f (.ref cC) A outer s H E).nox.A.guards = some [] := hg
    refine ⟨_, (pss_cons (ps_set (i := 8) scRight.nd rfl (.inr rfl) (pe_makeK MH GT (hr.mono (by decide)) rfl gS kb passF (pa_cons (pv 1) (pa_cons (pv 2) pa_nil)) (pk_cons (pv 3) pk_nil)))
      (pss_cons (ps_if (PW.pt (pw_or (pt_cmpR op_ne (pe_prop (pv 8) S.cl pNm GNm (hr.mono (by decide)) bNm .nil pass0 (by rfl)) (pv 1) (nomark _)) (pw_or (pt_cmpR (op_neD hr.units) (pe_prop (pv 8) S.cl pRw GRw (hr.mono (by decide)) bRw .nil pass0 (by rfl)) (pe_callTy call_tupleLs (by rfl) MT.tup (by decide +kernel) (pa_cons (pv 2) pa_nil)) (nomark _)) (pw_or (pt_cmpR (op_neD hr.units) (pe_prop (pv 8) S.cl pOw GOw (hr.mono (by decide)) bOw .nil pass0 (by rfl)) (pe_callTy call_tupleLs (by rfl) MT.tup (by decide +kernel) (pa_cons (pv 3) pa_nil)) (nomark _)) (pw_or1 (pt_cmpR op_ne (pe_callB (id := "repr") (r := rReprD K) (call_reprD hgX hr.units) (by rfl) TX.repr (by decide +kernel) (pa_cons (pe_callB (call_lenO GLn hsLn hfnLn bLn (hr.mono (by decide)) pass0) (by rfl) MT.len (by decide +kernel) (pa_cons (pv 8) pa_nil)) pa_nil)) (pe_callB (id := "repr") (r := rReprD K) (call_reprD hgX hr.units) (by rfl) TX.repr (by decide +kernel) (pa_cons (pe_callB call_len_seq (by rfl) MT.len PySem.boot_len (pa_cons (pv 2) pa_nil)) pa_nil)) (nomark _))))))) (pss_one (ps_ret pe_bl)) pss_nil)
      (pss_cons (ps_if (PW.pt (pw_or (pt_cmpR (op_neD hr.units) (pe_lc (own := [("k", 10)]) (g := gName 10) (by rfl) scRight.nd (pi_range1 rfl PT.range (pa_cons (pe_callB call_len_seq (by rfl) MT.len PySem.boot_len (pa_cons (pv 2) pa_nil)) pa_nil)) (blkOk_by (own := [("k", 10)]) (N := ["pool", "name", "rows", "mine", "row", "odd", "later", "at", "made", "wrong", "k"]) (sc := defScope sRight) (by decide +kernel)) (fun _ _ _ _ _ => pg_name (i := 10) scRight.nd rfl (Or.inl rfl)) (fun _ _ _ _ _ => pts_nil) (fun _ _ _ _ _ => pe_ixO (E := fun _ _ _ => False) GI hsI hfI hfnI bI (hr.mono (by decide)) passF (pv 8) (pv 10) (fun _ _ => rfl))) (pv 2) (nomark _)) (pw_or1 (pt_not (pt_val (pe_callB (cr_all rfl) (by rfl) MT.all (by decide +kernel) (pa_cons (pe_lc (own := [("row", 4)]) (g := gName 4) (by rfl) scRight.nd (pi_list (pv 2)) (blkOk_by (own := [("row", 4)]) (N := ["pool", "name", "rows", "mine", "row", "odd", "later", "at", "made", "wrong", "k"]) (sc := defScope sRight) (by decide +kernel)) (fun _ _ _ _ _ => pg_name (i := 4) scRight.nd rfl (Or.inl rfl)) (fun _ _ _ _ _ => pts_nil) (fun _ _ _ _ _ => pe_cmpR (op_inO GH hsH hfnH bH (hr.mono (by decide)) pass0) (pv 4) (pv 8) (by rfl))) pa_nil))))))) (pss_one (ps_ret pe_bl)) pss_nil)
      (pss_cons (ps_if (pt_cmpR (op_neD hr.units) (pe_lc (own := [("odd", 5)]) (g := gName 5) (by rfl) scRight.nd (pi_list (pe_lst (pa_cons (pe_tup (pa_cons pe_str (pa_cons pe_str pa_nil))) (pa_cons pe_non (pa_cons pe_str (pa_cons (pe_lst (pa_cons pe_str pa_nil)) (pa_cons pe_dnewK pa_nil))))))) (blkOk_by (own := [("odd", 5)]) (N := ["pool", "name", "rows", "mine", "row", "odd", "later", "at", "made", "wrong", "k"]) (sc := defScope sRight) (by decide +kernel)) (fun _ _ _ _ _ => pg_name (i := 5) scRight.nd rfl (Or.inl rfl)) (fun _ _ _ _ _ => pts_nil) (fun _ _ _ _ _ => pe_cmpR (op_inO GH hsH hfnH bH (hr.mono (by decide)) pass0) (pv 5) (pv 8) (by rfl))) (pe_op op_rep (pe_lst (pa_cons pe_bl pa_nil)) pe_int) (nomark _)) (pss_one (ps_ret pe_bl)) pss_nil)
      (pss_cons (ps_for PassesOwn.never rfl (pi_list (pe_lst (pa_cons (pe_callB call_len_seq (by rfl) MT.len PySem.boot_len (pa_cons (pv 2) pa_nil)) (pa_cons (pe_un un_neg pe_int) (pa_cons pe_non (pa_cons pe_bl (pa_cons pe_str pa_nil))))))) (pg_name (i := 5) scRight.nd rfl (.inr rfl)) (pss_one (ps_if (pt_cmpR (op_neD hr.units) (LamX.pe_lamcall (T := TT2 PT0 PT1) (a := "call") (k := 6) (Ng := ["call", "e"]) (x := "_law_caught") (by rfl) gCt kCt lkC hcC bCt scCaught rfl (.inl rfl) (gives_caught T FW bW gW hgX (hr.mono (by decide))) TB rfl (List.mem_cons_self ..) (tt2_first hne) (hr.mono (by decide)) (LamX.lamS_by (show LamX.lamSB (defScope sRight) _ = true by decide +kernel)) rfl (fun _ _ _ _ _ => rfl)
        (fun A outer s H E f c' hr2 => pe_ixO (E := E) GI hsI hfI hfnI bI (hr2.mono (by decide)) (passes_call (takes_of rfl rfl rfl rfl) (fun _ _ _ _ h => h)) (pv 8) (pv 5) (fun _ _ => rfl))) (pe_lst (pa_cons pe_str (pa_cons (pe_callB (id := "repr") (r := rReprD K) (call_reprD hgX hr.units) (by rfl) TX.repr (by decide +kernel) (pa_cons (pv 5) pa_nil)) pa_nil))) (nomark _)) (pss_one (ps_ret pe_bl)) pss_nil)))
      (pss_cons (ps_asg (pe_tup (pa_cons (pe_call GD (hr.mono (by decide)) rfl gD FD.kp bD .nil pass0 (pa_cons (pv 0) (pa_cons (pe_callB call_len_seq (by rfl) MT.len PySem.boot_len (pa_cons (pv 2) pa_nil)) pa_nil))) (pa_cons (pe_tup (pa_cons pe_str (pa_cons pe_str pa_nil))) pa_nil))) (pg_tup (by rfl) (pgs_cons (pg_name (i := 7) scRight.nd rfl (.inr rfl)) (pgs_cons (pg_name (i := 4) scRight.nd rfl (.inl rfl)) pgs_nil))))
      (pss_cons (ps_set (i := 6) scRight.nd rfl (.inl rfl) (pe_meth (pv 8) S.cl MC GC (hr.mono (by decide)) bC .nil passF (pa_cons (pv 7) (pa_cons (pv 4) pa_nil))))
      (pss_cons (ps_if (PW.pt (pw_or (pt_cmpR (op_neD hr.units) (pe_prop (pv 6) S.cl pRw GRw (hr.mono (by decide)) bRw .nil pass0 (by rfl)) (pe_callTy call_tupleLs (by rfl) MT.tup (by decide +kernel) (pa_cons (pe_op op_cat (pe_op op_cat (pe_slice sl_list (pv 2) po_none (po_some (pv 7))) (pe_lst (pa_cons (pv 4) pa_nil))) (pe_slice sl_list (pv 2) (po_some (pe_op op_add (pv 7) pe_int)) po_none)) pa_nil)) (nomark _)) (pw_or (pt_cmpR (op_neD hr.units) (pe_prop (pv 8) S.cl pRw GRw (hr.mono (by decide)) bRw .nil pass0 (by rfl)) (pe_callTy call_tupleLs (by rfl) MT.tup (by decide +kernel) (pa_cons (pv 2) pa_nil)) (nomark _)) (pw_or1 (pt_cmpR (op_neD hr.units) (pe_prop (pv 6) S.cl pOw GOw (hr.mono (by decide)) bOw .nil pass0 (by rfl)) (pe_callTy call_tupleLs (by rfl) MT.tup (by decide +kernel) (pa_cons (pv 3) pa_nil)) (nomark _)))))) (pss_one (ps_ret pe_bl)) pss_nil)
      (pss_cons (ps_set (i := 9) scRight.nd rfl (.inr rfl) (pe_call GWr (hr.mono (by decide)) rfl gWr FWr.kp bWr .nil pass0 (pa_cons (pv 0) (pa_cons (pe_callB call_len_seq (by rfl) MT.len PySem.boot_len (pa_cons (pv 2) pa_nil)) pa_nil))))
      (pss_cons (ps_if (pt_cmpR (op_neD hr.units) (LamX.pe_lamcall (T := TT2 PT0 PT1) (a := "call") (k := 6) (Ng := ["call", "e"]) (x := "_law_caught") (by rfl) gCt kCt lkC hcC bCt scCaught rfl (.inl rfl) (gives_caught T FW bW gW hgX (hr.mono (by decide))) TB rfl (List.mem_cons_self ..) (tt2_first hne) (hr.mono (by decide)) (LamX.lamS_by (show LamX.lamSB (defScope sRight) _ = true by decide +kernel)) rfl (fun _ _ _ _ _ => rfl)
        (fun A outer s H E f c' hr2 => pe_meth (E := E) (pv 8) S.cl MC GC (hr2.mono (by decide)) bC .nil (passes_call (takes_of rfl rfl rfl rfl) (fun _ _ _ _ h => h)) (pa_cons (pv 7) (pa_cons (pv 9) pa_nil)))) (pe_lst (pa_cons pe_str (pa_cons (pe_callB (id := "repr") (r := rReprD K) (call_reprD hgX hr.units) (by rfl) TX.repr (by decide +kernel) (pa_cons (pv 9) pa_nil)) pa_nil))) (nomark _)) (pss_one (ps_ret pe_bl)) pss_nil)
      (pss_cons (ps_if (pt_cmpR (op_neD hr.units) (LamX.pe_lamcall (T := TT2 PT0 PT1) (a := "call") (k := 6) (Ng := ["call", "e"]) (x := "_law_caught") (by rfl) gCt kCt lkC hcC bCt scCaught rfl (.inl rfl) (gives_caught T FW bW gW hgX (hr.mono (by decide))) TB rfl (List.mem_cons_self ..) (tt2_first hne) (hr.mono (by decide)) (LamX.lamS_by (show LamX.lamSB (defScope sRight) _ = true by decide +kernel)) rfl (fun _ _ _ _ _ => rfl)
        (fun A outer s H E f c' hr2 => pe_meth (E := E) (pv 8) S.cl MC GC (hr2.mono (by decide)) bC .nil (passes_call (takes_of rfl rfl rfl rfl) (fun _ _ _ _ h => h)) (pa_cons (pe_callB (r := rLenS K) call_len_seq (by rfl) MT.len PySem.boot_len (pa_cons (pv 2) pa_nil)) (pa_cons (pv 9) pa_nil)))) (pe_lst (pa_cons pe_str (pa_cons (pe_callB (id := "repr") (r := rReprD K) (call_reprD hgX hr.units) (by rfl) TX.repr (by decide +kernel) (pa_cons (pe_callB call_len_seq (by rfl) MT.len PySem.boot_len (pa_cons (pv 2) pa_nil)) pa_nil)) pa_nil))) (nomark _)) (pss_one (ps_ret pe_bl)) pss_nil)
      (pss_cons (ps_if (pt_cmpR (op_neO GE EC NC bE (hr.mono (by decide)) pass0) (pv 8) (pe_makeK MH GT (hr.mono (by decide)) rfl gS kb passF (pa_cons (pv 1) (pa_cons (pe_callTy call_tupleLs (by rfl) MT.tup (by decide +kernel) (pa_cons (pv 2) pa_nil)) pa_nil)) (pk_cons (pe_callTy call_tupleLs (by rfl) MT.tup (by decide +kernel) (pa_cons (pv 3) pa_nil)) pk_nil)) (nomark _)) (pss_one (ps_ret pe_bl)) pss_nil)
      (pss_cons (ps_if (pt_cmpR (op_eqO GE EC bE (hr.mono (by decide)) pass0) (pv 8) (pe_makeK MH GT (hr.mono (by decide)) rfl gS kb passF (pa_cons (pe_op op_add_str (pv 1) pe_str) (pa_cons (pv 2) pa_nil)) (pk_cons (pv 3) pk_nil)) (nomark _)) (pss_one (ps_ret pe_bl)) pss_nil)
      (pss_one (ps_ret (pe_and (pe_cmpR (op_neO GE EC NC bE (hr.mono (by decide)) pass0) (pv 8) (pe_makeK MH GT (hr.mono (by decide)) rfl gS kb passF (pa_cons (pv 1) (pa_cons (pv 2) pa_nil)) (pk_cons (pe_lst (pa_cons pe_str pa_nil)) pk_nil)) (nomark _)) (pe_and (pe_cmpR op_eq (pe_cmpR (op_eqO GE EC bE (hr.mono (by decide)) pass0) (pv 6) (pv 8) (nomark _)) (pe_cmpR (op_eqD hr.units) (pe_ix ix_list (pv 2) (pv 7) (fun _ _ => rfl)) (pv 4) (nomark _)) (nomark _)) (pe_one (pe_cmpR (op_neT GE EC NC bE (hr.mono (by decide)) pass0) (pv 8) (pe_callTy call_tupleLs (by rfl) MT.tup (by decide +kernel) (pa_cons (pv 2) pa_nil)) (nomark _)))))))))))))))))))), ?_⟩
    have lay : LayL (xss.map dRow) := rows_lay hpd l10
    obtain ⟨shT, eqT⟩ := lay.tup
    obtain ⟨shL, eqL⟩ := lay.lst
    have og := own_good hos
    obtain ⟨shO, eqO⟩ := og.lay.tup
    obtain ⟨zn1, zn2, zn3, zn4, zn5⟩ := name_good hzn
    have ow : ∀ H', DpAll K H' os (os.map fdV) := fun H' => flat_dp og.fl
    have xmem := rows_mem hpd
    have okn : okD (.int (rs.length : Nat)) = true := okD_int (by omega)
    have Pn : ∀ {H'}, RS K (TT2 PT0 PT1) p q C R R R R R M z rs os xss H H' → True := fun _ => trivial
    clear Pn
    have g0 : GoodS H z rs os := ⟨zn1, Nat.le_trans zn2 (by decide), l1, l10, fun y hy => (rows_rv hpd l10 y hy).1, fun y hy => (rows_rv hpd l10 y hy).2, og.an⟩
    refine ⟨_, rfl, _, rfl, _, rfl, rfl, rfl, mkS_ok g0 (.lst hR.e) (.lst hM.e) fun H1 x dx pr po s1 _ sa => ?_⟩
    have S1 : RS K (TT2 PT0 PT1) p q C x dx pr po R M z rs os xss H H1 := ⟨.same s1, hP.same s1, hT.ext s1, hR.same s1, hM.same s1, rows_mv hpd (.same s1), sa⟩
    clear hP hT hR hM hpd g0 sa s1
    -- name, rows, own, length
    refine ⟨_, rfl, x, dx, _, rfl, S1.made.ins, x, C, dx, _, .str z, rfl, S1.made.ins, S.cl, S.n1, rfl, _, rfl, rfl, _, rfl, ifNe rfl ?_⟩
    refine ⟨_, rfl, x, dx, _, rfl, S1.made.ins, x, C, dx, _, .ref pr, rfl, S1.made.ins, S.cl, S.n2, rfl, _, rfl, _, rs, rfl, .lst S1.rows.e, fun t2 H2 s2 e2 => ?_⟩
    have S2 := S1.same s2
    clear S1 s2
    refine ⟨.tuple (xss.map dRow), .tuple (xss.map dRow), .tup S2.made.rows (rows_dp S2.pd l10), .tup e2 (rows_dp S2.pd l10), shT, shT, _, rfl, ifEq eqT ?_⟩
    refine ⟨_, rfl, x, dx, _, rfl, S2.made.ins, x, C, dx, _, .ref po, rfl, S2.made.ins, S.cl, S.n3, rfl, _, rfl, _, os, rfl, .lst S2.mine.e, fun t3 H3 s3 e3 => ?_⟩
    have S3 := S2.same s3
    clear S2 s3 e2
    refine ⟨.tuple (os.map fdV), .tuple (os.map fdV), .tup S3.made.own (ow _), .tup e3 (ow _), shO, shO, _, rfl, ifEq eqO ?_⟩
    refine ⟨_, rfl, x, dx, _, rfl, S3.made.ins, x, dx, _, pr, po, rs, os, rfl, S3.made, _, rfl, by omega, by omega, _, _, rfl, .inl (.int _), okn, _, rfl, R, rs, rfl, .inl (.inl (.inl S3.rows.e)), _, _, rfl, .inl (.int _), okn, rfl, _, rfl, ifNe rfl ?_⟩
    clear e3
    -- each row by its number
    refine ⟨_, rfl, R, rs, rfl, .inl (.inl (.inl S3.rows.e)), _, rfl, by omega, by omega, fun D hD => lc_it (walk_range (lo := 0) (n := ((rs.length : Nat) : Int).toNat)) (fun i H' => Same H3 H' ∧ H' D = some (.lst (rs.take i))) ⟨Same.new hD, upd_same⟩ (fun _ _ _ _ => True.intro) ?_ ?_⟩
    · rintro i v H4 H5 hi ⟨s4, e4⟩ ⟨rfl, rfl⟩
      have S4 := S3.same s4
      have hi' : i < rs.length := by omega
      refine ⟨rfl, _, rfl, _, rfl, x, dx, _, rfl, S4.made.ins, x, dx, _, pr, po, rs, os, _, "int", rfl, S4.made, .int _, fun q => ?_, fun i2 y hi2 hy => ⟨rs.take i, e4, ?_, fun b o h => ?_, ?_⟩⟩
      · have : isIndex (.int (0 + (i : Nat))) (rs.length : Nat) = true := by
          show (if (0 : Int) ≤ 0 + (i : Nat) then decide ((0 : Int) + (i : Nat) < (rs.length : Nat)) else false) = true
          rw [if_pos (by omega), decide_eq_true (by omega)]
        rw [this] at q
        cases q
      · rw [List.length_take]
        exact Nat.lt_of_le_of_lt (Nat.min_le_right _ _) (Nat.lt_of_le_of_lt l10 (by decide))
      · rw [upd_ne (ne_of_none h hD)]
        exact s4 _ _ h
      · have ei : i2 = i := by
          injection hi2 with hi2
          omega
        rw [ei] at hy
        rw [upd_same, List.take_add_one, hy]
        rfl
    rintro H4 ⟨s4, e4⟩
    have S4 := S3.same s4
    clear S3 s4
    rw [show ((rs.length : Nat) : Int).toNat = rs.length by omega, List.take_length] at e4
    refine ⟨_, rfl, .list (xss.map dRow), .list (xss.map dRow), .lst (.inl (.inl e4)) (rows_dp S4.pd l10), .lst (.inl (.inl S4.rows.e)) (rows_dp S4.pd l10), shL, shL, _, rfl, ifEq eqL ?_⟩
    clear e4 hD
    -- each row is in it
    refine ⟨_, rfl, R, rfl, ⟨_, .inl (.inl S4.rows.e)⟩, fun D2 hD2 => lc_it walk_list (fun i H' => Same H4 H' ∧ H' D2 = some (.lst ((List.replicate i true).map V.bl))) ⟨Same.new hD2, upd_same⟩ (fun i H' _ h => .inl (.inl (h.1 _ _ S4.rows.e))) ?_ ?_⟩
    · rintro i v H5 H6 hi ⟨s5, e5⟩ ⟨rfl, hv⟩
      have S5 := S4.same s5
      obtain ⟨d, hd, hdp⟩ := dpAll_at (K := K) (rows_dp S5.pd l10) hv
      have vm := List.mem_of_getElem? hv
      obtain ⟨rv1, am1⟩ := rows_rv S5.pd l10 v vm
      have dl := lay d (List.mem_of_getElem? hd)
      refine ⟨rfl, _, rfl, _, rfl, x, dx, _, rfl, S5.made.ins, x, dx, _, pr, po, rs, os, v, rfl, S5.made, rv1, fun q => ?_, fun _ => ⟨d, xss.map dRow, hdp, .tup S5.made.rows (rows_dp S5.pd l10), shaped_of dl, shT, fun H7 s7 => ⟨_, rfl, _, s7 _ _ e5, ?_, fun b o h => ?_, ?_⟩⟩⟩
      · rw [row_of_among am1] at q
        cases q
      · rw [List.length_map, List.length_replicate]
        exact Nat.lt_trans hi (Nat.lt_of_le_of_lt l10 (by decide))
      · rw [upd_ne (ne_of_none h hD2)]
        exact s7 _ _ (s5 _ _ h)
      · have e : ((xss.map dRow).any fun z => PyData.eqv z d) = true := List.any_eq_true.mpr ⟨d, List.mem_of_getElem? hd, SeqAt.eqv_refl _ dl.1⟩
        rw [upd_same, e, List.replicate_succ', List.map_append]
        rfl
    rintro H5 ⟨s5, e5⟩
    have S5 := S4.same s5
    clear S4 s5
    refine ⟨_, _, rfl, .inl (.inl e5), ?_⟩
    rw [show ((List.replicate rs.length true).all id) = true by simp]
    refine ⟨_, rfl, iteF ?_⟩
    clear e5 hD2
    -- what is not in it
    refine ⟨(by show 2 ≤ sizeLine; decide), fun t ht => ?_⟩
    have st := Same.new (o := .tup [.str "use", .str "zz"]) ht
    have et : (upd H5 t (.tup [.str "use", .str "zz"])) t = _ := upd_same
    have S6 := S5.same st
    clear S5 st
    generalize upd H5 t (.tup [.str "use", .str "zz"]) = H6 at *
    refine ⟨(by show 1 ≤ sizeLine; decide), fun l hl => ?_⟩
    have sl := Same.new (o := .lst [.str "rest"]) hl
    have el : (upd H6 l (.lst [.str "rest"])) l = _ := upd_same
    have et7 := sl _ _ et
    have S7 := S6.same sl
    clear S6 sl et
    generalize upd H6 l (.lst [.str "rest"]) = H7 at *
    refine fun d0 hd0 => ?_
    have sd := Same.new (o := .dK []) hd0
    have ed : (upd H7 d0 (.dK [])) d0 = _ := upd_same
    have et8 := sd _ _ et7
    have el8 := sd _ _ el
    have S8 := S7.same sd
    clear S7 sd et7 el
    generalize upd H7 d0 (.dK []) = H8 at *
    refine ⟨(by show 5 ≤ sizeLine; decide), fun L hL => ?_⟩
    have sL := Same.new (o := .lst [.ref t, .non, .str "rest", .ref l, .ref d0]) hL
    have eL : (upd H8 L (.lst [.ref t, .non, .str "rest", .ref l, .ref d0])) L = _ := upd_same
    have et9 := sL _ _ et8
    have el9 := sL _ _ el8
    have ed9 := sL _ _ ed
    have S9 := S8.same sL
    clear S8 sL et8 el8 ed
    generalize upd H8 L (.lst [.ref t, .non, .str "rest", .ref l, .ref d0]) = H9 at *
    clear ht hl hd0 hL
    refine ⟨L, rfl, ⟨_, .inl (.inl eL)⟩, fun D3 hD3 => lc_it walk_list (fun i H' => Same H9 H' ∧ H' D3 = some (.lst ((List.replicate i false).map V.bl))) ⟨Same.new hD3, upd_same⟩ (fun i H' _ h => .inl (.inl (h.1 _ _ eL))) ?_ ?_⟩
    · rintro i v Hx HA hi ⟨sA, eA⟩ ⟨rfl, hv⟩
      have SA := S9.same sA
      have etA := sA _ _ et9
      have key : RowV HA v ∧ (rowOf HA v = false ∨ v = .ref t) := by
        match i, hv with
        | 0, e =>
          cases e
          exact ⟨.inr ⟨t, _, rfl, etA, by decide, fun x hx => by
            rcases List.mem_cons.mp hx with rfl | hx
            · exact ⟨_, .str _ (by decide +kernel)⟩
            · rw [List.mem_singleton.mp hx]
              exact ⟨_, .str _ (by decide +kernel)⟩⟩, .inr rfl⟩
        | 1, e => cases e; exact ⟨.inl ⟨_, .non, by decide⟩, .inl rfl⟩
        | 2, e => cases e; exact ⟨.inl ⟨_, .str _ (by decide +kernel), by decide⟩, .inl rfl⟩
        | 3, e => cases e; exact ⟨.inl ⟨_, .lst (sA _ _ el9), by decide⟩, .inl (rowOf_no (.lst (sA _ _ el9)) (by decide))⟩
        | 4, e => cases e; exact ⟨.inl ⟨_, .dK (sA _ _ ed9), by decide⟩, .inl (rowOf_no (.dK (sA _ _ ed9)) (by decide))⟩
      have fin : ∀ HB, Same HA HB → ∃ acc, HB D3 = some (.lst acc) ∧ acc.length < sizeLine ∧ Same H9 (upd HB D3 (.lst (acc ++ [.bl false]))) ∧ (upd HB D3 (.lst (acc ++ [.bl false]))) D3 = some (.lst ((List.replicate (i + 1) false).map V.bl)) := fun HB sB =>
        ⟨_, sB _ _ eA, by
          rw [List.length_map, List.length_replicate]
          exact Nat.lt_trans hi (by show 5 < sizeLine; decide), fun b o h => by
          rw [upd_ne (ne_of_none h hD3)]
          exact sB _ _ (sA _ _ h), by
          rw [upd_same, List.replicate_succ', List.map_append]
          rfl⟩
      refine ⟨rfl, _, rfl, _, rfl, x, dx, _, rfl, SA.made.ins, x, dx, _, pr, po, rs, os, v, rfl, SA.made, key.1, fun _ HB sB => ⟨_, rfl, fin HB sB⟩, fun q => ?_⟩
      rcases key.2 with r | rfl
      · rw [r] at q
        cases q
      · refine ⟨dRow [.str "use", .str "zz"], xss.map dRow, .tup (.inl (.inl etA)) (.cons (.str _) (.cons (.str _) .nil)), .tup SA.made.rows (rows_dp SA.pd l10), by decide +kernel, shT, fun HB sB => ⟨_, rfl, ?_⟩⟩
        have e : ((xss.map dRow).any fun z => PyData.eqv z (dRow [.str "use", .str "zz"])) = false := by
          rw [List.any_eq_false]
          intro d hd
          obtain ⟨xs, hxs, rfl⟩ := List.mem_map.mp hd
          rw [(zz_no l10 (xmem xs hxs)).1]
          simp
        rw [e]
        exact fin HB sB
    rintro HA ⟨sA, eA⟩
    have SA := S9.same sA
    clear S9 sA eL et9 el9 ed9
    refine ⟨(by show 1 ≤ sizeLine; decide), fun la hla => ⟨la, 5, _, rfl, rfl, upd_same, by decide, by decide, by decide, fun lb hlb => ?_⟩⟩
    have s2 := (Same.new (o := .lst [.bl false]) hla).trans (Same.new (o := .lst (List.replicate (5 : Int).toNat [.bl false]).flatten) hlb)
    have e2 : (upd (upd HA la (.lst [.bl false])) lb (.lst (List.replicate (5 : Int).toNat [.bl false]).flatten)) lb = some (.lst [.bl false, .bl false, .bl false, .bl false, .bl false]) := upd_same
    have eB := s2 _ _ eA
    have SB := SA.same s2
    clear SA s2 eA
    generalize upd (upd HA la (.lst [.bl false])) lb (.lst (List.replicate (5 : Int).toNat [.bl false]).flatten) = HB at *
    clear hla hlb hD3
    have five : ∀ {a : Addr}, HB a = some (.lst [.bl false, .bl false, .bl false, .bl false, .bl false]) → Dp K HB (.ref a) (.list [.bool false, .bool false, .bool false, .bool false, .bool false]) := fun e => .lst (.inl (.inl e)) (.cons (.bl _) (.cons (.bl _) (.cons (.bl _) (.cons (.bl _) (.cons (.bl _) .nil)))))
    refine ⟨_, _, five eB, five e2, by decide +kernel, by decide +kernel, _, rfl, ifEq (by decide +kernel) ?_⟩
    clear five eB e2
    -- items that are none
    refine ⟨_, rfl, R, rs, rfl, .inl (.inl (.inl SB.rows.e)), _, rfl, (by show 5 ≤ sizeLine; decide), fun L hL => ?_⟩
    have sL := Same.new (o := .lst [.int (rs.length : Nat), .int (-1), .non, .bl true, .str "0"]) hL
    have eL : (upd HB L (.lst [.int (rs.length : Nat), .int (-1), .non, .bl true, .str "0"])) L = _ := upd_same
    have SC := SB.same sL
    clear SB sL
    generalize upd HB L (.lst [.int (rs.length : Nat), .int (-1), .non, .bl true, .str "0"]) = HC at *
    clear hL
    refine ⟨L, rfl, ⟨_, .inl (.inl eL)⟩, for_list (xs := [.int (rs.length : Nat), .int (-1), .non, .bl true, .str "0"]) (fun _ σ H' => ∃ u5, σ = [some (.ref p), some (.str z), some (.ref R), some (.ref M), none, u5, none, none, some (.ref x), none, none] ∧
      RS K (TT2 PT0 PT1) p q C x dx pr po R M z rs os xss H H' ∧ H' L = some (.lst [.int (rs.length : Nat), .int (-1), .non, .bl true, .str "0"])) ⟨_, rfl, SC, eL⟩ (fun _ _ _ _ e => .inl (.inl e.choose_spec.2.2)) ?_ ?_⟩
    · rintro i3 v σ HD hv ⟨u5, rfl, SD, eD⟩
      obtain ⟨d, ⟨kv, hkv⟩, hix, rpv, okv⟩ : ∃ d, (∃ n, ∀ H', Kd H' v n) ∧ isIndex v (rs.length : Nat) = false ∧ (∀ H', Rp K H' v d) ∧ okD d = true := by
        match i3, hv with
        | 0, e =>
          cases e
          refine ⟨_, ⟨_, fun _ => .int _⟩, ?_, fun _ => .inl (.int _), okn⟩
          show (if (0 : Int) ≤ (rs.length : Nat) then decide (((rs.length : Nat) : Int) < (rs.length : Nat)) else false) = false
          rw [if_pos (by omega), decide_eq_false (by omega)]
        | 1, e => cases e; exact ⟨.int (-1), ⟨_, fun _ => .int _⟩, rfl, fun _ => .inl (.int _), by decide +kernel⟩
        | 2, e => cases e; exact ⟨.none, ⟨_, fun _ => .non⟩, rfl, fun _ => .inl .non, by decide +kernel⟩
        | 3, e => cases e; exact ⟨.bool true, ⟨_, fun _ => .bl _⟩, rfl, fun _ => .inl (.bl _), by decide +kernel⟩
        | 4, e => cases e; exact ⟨.str "0", ⟨_, fun _ => .str _ (by decide)⟩, rfl, fun _ => .inl (.str _), by decide +kernel⟩
      refine ⟨SD.tabs, fun HE ex tx E1 hE1 => ?_⟩
      have SE := SD.ext ex tx
      have eE := ex _ _ eD (fun _ e => by cases e)
      clear SD eD
      refine ⟨_, rfl, _, rfl, x, dx, _, rfl, SE.made.ins, x, dx, _, pr, po, rs, os, v, kv, rfl, SE.made, hkv _, fun _ dd HF sF eF => hE1 _ _ _ ⟨0, dd, v, d, by decide, rfl, rfl, eF, rpv _, okv, fun HG r sG eG => ?_⟩, fun i y hi hy => ?_⟩
      · have sFG := sF.trans sG
        refine ⟨_, rfl, v, d, rfl, rpv _, okv, (by show 2 ≤ sizeLine; decide), fun l hl => ?_⟩
        have sl := Same.new (o := .lst [.str "number", .str d.shown]) hl
        have ok := okD_strOk okv
        exact ⟨_, _, dp_two (sl _ _ eG), dp_two upd_same, shaped_two ok, shaped_two ok, _, rfl, ifTwo ⟨_, rfl, SE.same (sFG.trans sl), sl _ _ (sFG _ _ eE)⟩⟩
      · exfalso
        subst hi
        have hlt := (List.getElem?_eq_some_iff.mp hy).1
        have : isIndex (.int (i : Nat)) (rs.length : Nat) = true := by
          show (if (0 : Int) ≤ (i : Nat) then decide (((i : Nat) : Int) < (rs.length : Nat)) else false) = true
          rw [if_pos (by omega), decide_eq_true (by omega)]
        rw [this] at hix
        cases hix
    clear SC eL HC
    rintro σ HC ⟨u5, rfl, SC, _⟩
    -- at, row
    refine ⟨_, rfl, _, rfl, R, rs, rfl, .inl (.inl (.inl SC.rows.e)), p, q, _, rfl, SC.pool, by omega, by omega, fun HD r bD' PD r0 r1 => ?_⟩
    have SD := SC.but bD' PD
    clear SC bD' PD
    obtain ⟨j, rfl⟩ := Int.eq_ofNat_of_zero_le r0
    have hj : j < rs.length := by omega
    refine ⟨(by show 2 ≤ sizeLine; decide), fun c hc => ?_⟩
    have fc : Sf p q _ c (.tup [.str "close", .str "zz"]) := Sf.new SD.pool hc
    have SE := SD.same (Same.new (o := .tup [.str "close", .str "zz"]) hc)
    clear SD
    generalize upd HD c (.tup [.str "close", .str "zz"]) = HE at *
    refine ⟨(by show 2 ≤ sizeLine; decide), fun tp htp => ?_⟩
    have sp := Same.new (o := .tup [.int (j : Nat), .ref c]) htp
    refine ⟨tp, _, rfl, .inl (.inl upd_same), rfl, _, _, rfl, _, _, rfl, rfl, ?_⟩
    have SF := SE.same sp
    have fcF := fc.same sp
    clear SE fc sp
    generalize upd HE tp (.tup [.int (j : Nat), .ref c]) = HF at *
    clear hc htp
    have crv : ∀ {H' : Hp}, Sf p q H' c (.tup [.str "close", .str "zz"]) → RowV H' (.ref c) ∧ amongOf H' (.ref c) (rs.length : Nat) = true := fun f => by
      refine ⟨.inr ⟨c, _, rfl, f.e, by decide, fun x hx => ?_⟩, ?_⟩
      · rcases List.mem_cons.mp hx with rfl | hx
        · exact ⟨_, .str _ (by decide +kernel)⟩
        · rw [List.mem_singleton.mp hx]
          exact ⟨_, .str _ (by decide +kernel)⟩
      · rw [amongOf_tup f.e]
        have a : ∀ n, n < 11 → amongL [.str "close", .str "zz"] ((n : Nat) : Int) = true := by decide +kernel
        exact a _ (by omega)
    have cdp : ∀ {H' : Hp}, Sf p q H' c (.tup [.str "close", .str "zz"]) → Dp K H' (.ref c) (dRow [.str "close", .str "zz"]) := fun f => .tup (.inl (.inl f.e)) (.cons (.str _) (.cons (.str _) .nil))
    have ixj : isIndex (.int (j : Nat)) (rs.length : Nat) = true := by
      show (if (0 : Int) ≤ (j : Nat) then decide (((j : Nat) : Int) < (rs.length : Nat)) else false) = true
      rw [if_pos (by omega), decide_eq_true (by omega)]
    have int_inj : ∀ {a b : Nat}, V.int ((a : Nat) : Int) = V.int ((b : Nat) : Int) → a = b := fun h => by
      injection h with h
      omega
    -- later
    refine ⟨_, rfl, x, dx, _, rfl, SF.made.ins, rfl, _, rfl, _, rfl, x, dx, z, pr, po, rs, os, _, "int", _, rfl, SF.made, SF.good l1 l10 hos hzn, .int _, (crv fcF).1, fun q => ?_, fun i hi hlt => ⟨fun q => ?_, fun _ HG y dy pr2 po2 sG sa2 _ => ?_⟩⟩
    · rw [ixj] at q
      cases q
    · rw [(crv fcF).2] at q
      cases q
    have ei := int_inj hi
    subst ei
    have SG := SF.same sG
    have fcG := fcF.same sG
    clear SF fcF sG hi hlt
    have layS : LayL (setD (xss.map dRow) j (dRow [.str "close", .str "zz"])) := lay.set j ⟨by decide +kernel, by decide +kernel⟩
    obtain ⟨shS, eqS⟩ := layS.tup
    -- later.rows
    refine ⟨_, rfl, y, dy, _, rfl, sa2.ins, y, C, dy, _, .ref pr2, rfl, sa2.ins, S.cl, S.n2, rfl, _, rfl, _, rfl, _, rfl, R, rs, rfl, .inl (.inl SG.rows.e), fun l1' hl1 => ?_⟩
    have t1 := Same.new (o := .lst (cutV rs none (some (j : Int)))) hl1
    refine ⟨_, rfl, (by show 1 ≤ sizeLine; decide), fun l2 hl2 => ?_⟩
    have t2 := Same.new (o := .lst [.ref c]) hl2
    have lnA : (cutV rs none (some (j : Int))).length ≤ 10 := by
      rw [cut_to rs j (by omega), List.length_take]
      omega
    have lnB : (cutV rs (some ((j : Int) + 1)) none).length ≤ 10 := by
      rw [show (j : Int) + 1 = ((j + 1 : Nat) : Int) by omega, cut_from rs (j + 1) (by omega), List.length_drop]
      omega
    refine ⟨l1', l2, _, _, rfl, rfl, t2 _ _ upd_same, upd_same, Nat.le_trans (Nat.add_le_add_right lnA _) (by show 11 ≤ sizeLine; decide), fun l3 hl3 => ?_⟩
    have t3 := Same.new (o := .lst (cutV rs none (some (j : Int)) ++ [.ref c])) hl3
    have t13 := (t1.trans t2).trans t3
    have e3 : (upd (upd (upd HG l1' (.lst (cutV rs none (some (j : Int))))) l2 (.lst [.ref c])) l3 (.lst (cutV rs none (some (j : Int)) ++ [.ref c]))) l3 = _ := upd_same
    have SH := SG.same t13
    have fcH := fcG.same t13
    have saH := sa2.same t13
    clear SG fcG sa2 t1 t2 t3 t13
    generalize upd (upd (upd HG l1' (.lst (cutV rs none (some (j : Int))))) l2 (.lst [.ref c])) l3 (.lst (cutV rs none (some (j : Int)) ++ [.ref c])) = HH at *
    clear hl1 hl2 hl3
    refine ⟨_, rfl, _, rfl, _, _, rfl, rfl, _, rfl, R, rs, rfl, .inl (.inl SH.rows.e), fun l4 hl4 => ?_⟩
    have t4 := Same.new (o := .lst (cutV rs (some ((j : Int) + 1)) none)) hl4
    refine ⟨l3, l4, _, _, rfl, rfl, t4 _ _ e3, upd_same, ?_, fun l5 hl5 => ?_⟩
    · rw [List.length_append]
      exact Nat.le_trans (show (cutV rs none (some (j : Int))).length + 1 + (cutV rs (some ((j : Int) + 1)) none).length ≤ 21 by omega) (by decide)
    have t5 := Same.new (o := .lst (cutV rs none (some (j : Int)) ++ [.ref c] ++ cutV rs (some ((j : Int) + 1)) none)) hl5
    have t45 := t4.trans t5
    have e5 : (upd (upd HH l4 (.lst (cutV rs (some ((j : Int) + 1)) none))) l5 (.lst (cutV rs none (some (j : Int)) ++ [.ref c] ++ cutV rs (some ((j : Int) + 1)) none))) l5 = some (.lst (setL rs j (.ref c))) := by
      rw [upd_same]
      unfold setL
      rw [cut_to rs j (by omega), show (j : Int) + 1 = ((j + 1 : Nat) : Int) by omega, cut_from rs (j + 1) (by omega)]
    have SI := SH.same t45
    have fcI := fcH.same t45
    have saI := saH.same t45
    clear SH fcH saH t4 t5 t45 e3
    generalize upd (upd HH l4 (.lst (cutV rs (some ((j : Int) + 1)) none))) l5 (.lst (cutV rs none (some (j : Int)) ++ [.ref c] ++ cutV rs (some ((j : Int) + 1)) none)) = HI at *
    clear hl4 hl5
    refine ⟨_, _, rfl, .lst e5, fun t6 HJ sJ eJ => ?_⟩
    have SJ := SI.same sJ
    have fcJ := fcI.same sJ
    have saJ := saI.same sJ
    clear SI fcI saI e5 sJ
    refine ⟨_, _, .tup saJ.rows (dpAll_set j (rows_dp SJ.pd l10) (cdp fcJ)), .tup eJ (dpAll_set j (rows_dp SJ.pd l10) (cdp fcJ)), shS, shS, _, rfl, ifEq eqS ?_⟩
    clear eJ
    -- made.rows
    refine ⟨_, rfl, x, dx, _, rfl, SJ.made.ins, x, C, dx, _, .ref pr, rfl, SJ.made.ins, S.cl, S.n2, rfl, _, rfl, _, rs, rfl, .lst SJ.rows.e, fun t7 HK sK eK => ?_⟩
    have SK := SJ.same sK
    have fcK := fcJ.same sK
    have saK := saJ.same sK
    clear SJ fcJ saJ sK
    refine ⟨.tuple (xss.map dRow), .tuple (xss.map dRow), .tup SK.made.rows (rows_dp SK.pd l10), .tup eK (rows_dp SK.pd l10), shT, shT, _, rfl, ifEq eqT ?_⟩
    clear eK
    -- later.own
    refine ⟨_, rfl, y, dy, _, rfl, saK.ins, y, C, dy, _, .ref po2, rfl, saK.ins, S.cl, S.n3, rfl, _, rfl, _, os, rfl, .lst SK.mine.e, fun t8 HL sL eL => ?_⟩
    have SL := SK.same sL
    have fcL := fcK.same sL
    have saL := saK.same sL
    clear SK fcK saK sL
    refine ⟨.tuple (os.map fdV), .tuple (os.map fdV), .tup saL.own (ow _), .tup eL (ow _), shO, shO, _, rfl, ifEq eqO ?_⟩
    clear eL
    -- wrong
    refine ⟨_, rfl, _, rfl, R, rs, rfl, .inl (.inl (.inl SL.rows.e)), p, q, rs.length, rfl, SL.pool, l10, fun HM wv wd bM PM wrM => ?_⟩
    have SM := SL.but bM PM
    have fcM := fcL.but bM
    have saM := saL.mv SL.pool (.but bM)
    clear SL fcL saL bM PM
    refine ⟨SM.tabs, fun HN ex tx E1 hE1 => ?_⟩
    have SN := SM.ext ex tx
    have fcN := fcM.mv (.ext ex)
    have saN := saM.mv SM.pool (.ext ex)
    have wrN := wrM.mv (.ext ex)
    clear SM fcM saM wrM
    refine ⟨_, rfl, x, dx, _, rfl, SN.made.ins, rfl, _, rfl, _, rfl, x, dx, z, pr, po, rs, os, _, "int", _, rfl, SN.made, SN.good l1 l10 hos hzn, .int _, (wrN.rv l10).1, fun q => ?_, fun i hi hlt => ⟨fun _ dd HO sO eO => hE1 _ _ _ ⟨2, dd, wv, wd, by decide, rfl, rfl, eO, rp_same (wrN.rp l10) sO, wrN.ok l10, fun HP r2 sP eP => ?_⟩, fun q => ?_⟩⟩
    rotate_left
    rotate_left
    · rw [(wrN.rv l10).2] at q
      cases q
    · rw [ixj] at q
      cases q
    have sOP := sO.trans sP
    have SP := SN.same sOP
    have fcP := fcN.same sOP
    have saP := saN.same sOP
    have wrP := wrN.mv (.same sOP)
    clear SN fcN saN wrN hE1 sO eO sP ex tx
    refine ⟨_, rfl, wv, wd, rfl, wrP.rp l10, wrP.ok l10, (by show 2 ≤ sizeLine; decide), fun l hl => ?_⟩
    have sl := Same.new (o := .lst [.str "row", .str wd.shown]) hl
    have okz := okD_strOk (wrP.ok l10)
    have SQ := SP.same sl
    have fcQ := fcP.same sl
    have saQ := saP.same sl
    have wrQ := wrP.mv (.same sl)
    refine ⟨_, _, dp_two (sl _ _ eP), dp_two upd_same, shaped_two okz, shaped_two okz, _, rfl, ifTwo ?_⟩
    clear SP fcP saP wrP eP sl okz
    generalize upd HP l (.lst [.str "row", .str wd.shown]) = HQ at *
    clear hl
    -- at the length
    refine ⟨SQ.tabs, fun HN ex tx E1 hE1 => ?_⟩
    have SN := SQ.ext ex tx
    have fcN := fcQ.mv (.ext ex)
    have saN := saQ.mv SQ.pool (.ext ex)
    have wrN := wrQ.mv (.ext ex)
    clear SQ fcQ saQ wrQ
    have ixn : isIndex (.int (rs.length : Nat)) (rs.length : Nat) = false := by
      show (if (0 : Int) ≤ (rs.length : Nat) then decide (((rs.length : Nat) : Int) < (rs.length : Nat)) else false) = false
      rw [if_pos (by omega), decide_eq_false (by omega)]
    refine ⟨_, rfl, x, dx, _, rfl, SN.made.ins, rfl, _, rfl, R, rs, rfl, .inl (.inl (.inl SN.rows.e)), _, rfl, x, dx, z, pr, po, rs, os, _, "int", _, rfl, SN.made, SN.good l1 l10 hos hzn, .int _, (wrN.rv l10).1, fun _ dd HO sO eO => hE1 _ _ _ ⟨0, dd, _, .int (rs.length : Nat), by decide, rfl, rfl, eO, .inl (.int _), okn, fun HP r2 sP eP => ?_⟩, fun i hi hlt => ?_⟩
    rotate_left
    · exact absurd (int_inj hi) (by omega)
    have sOP := sO.trans sP
    have SP := SN.same sOP
    have fcP := fcN.same sOP
    have saP := saN.same sOP
    clear SN fcN saN wrN hE1 sO eO sP ex tx
    refine ⟨_, rfl, R, rs, rfl, .inl (.inl (.inl SP.rows.e)), _, .int (rs.length : Nat), rfl, .inl (.int _), okn, (by show 2 ≤ sizeLine; decide), fun l hl => ?_⟩
    have sl := Same.new (o := .lst [.str "number", .str (PyData.shown (.int (rs.length : Nat)))]) hl
    have okz := okD_strOk okn
    have SQ := SP.same sl
    have fcQ := fcP.same sl
    have saQ := saP.same sl
    refine ⟨_, _, dp_two (sl _ _ eP), dp_two upd_same, shaped_two okz, shaped_two okz, _, rfl, ifTwo ?_⟩
    clear SP fcP saP eP sl okz
    generalize upd HP l (.lst [.str "number", .str (PyData.shown (.int (rs.length : Nat)))]) = HQ at *
    clear hl
    -- made != Sort(..) of the same
    refine ⟨_, rfl, _, rfl, _, rfl, _, rs, rfl, .lst SQ.rows.e, fun t1 H1 s1 e1 => ⟨_, rfl, _, os, rfl, .lst (s1 _ _ SQ.mine.e), fun t2 H2 s2 e2 => ⟨rfl, rfl, ?_⟩⟩⟩
    have SR := SQ.same (s1.trans s2)
    have fcR := fcQ.same (s1.trans s2)
    have saR := saQ.same (s1.trans s2)
    clear SQ fcQ saQ
    refine mkS_ok (SR.good l1 l10 hos hzn) (.tup (s2.seqT e1)) (.tup e2) fun H3 y3 dy3 pr3 po3 s3 _ sa3 => ?_
    have SS := SR.same s3
    have fcS := fcR.same s3
    have saS := saR.same s3
    clear SR fcR saR e1 e2 s1 s2 s3
    refine ⟨x, dx, _, y3, dy3, _, rfl, rfl, SS.made.ins, sa3.ins, x, dx, pr, po, rs, os, z, _, rfl, SS.made, .inr ⟨y3, dy3, pr3, po3, rs, os, z, _, _, _, _, rfl, sa3, .tup SS.made.rows (rows_dp SS.pd l10), .tup sa3.rows (rows_dp SS.pd l10), .tup SS.made.own (ow _), .tup sa3.own (ow _), shT, shT, shO, shO, _, rfl, _, rfl, ?_⟩⟩
    rw [if_pos rfl, if_pos eqT, eqO]
    refine iteF ?_
    clear sa3
    -- made == Sort(name + 'x', ..)
    refine ⟨_, rfl, _, rfl, _, _, rfl, rfl, ?_, _, rfl, _, rfl, rfl, rfl, ?_⟩
    · show z.length + 1 ≤ sizeLine
      exact Nat.le_trans (show z.length + 1 ≤ 9 by omega) (by decide)
    have g := SS.good l1 l10 hos hzn
    refine mkS_ok ⟨zn3, Nat.le_trans zn4 (by decide), g.l1, g.l10, g.rv, g.am, g.on⟩ (.lst SS.rows.e) (.lst SS.mine.e) fun H3 y3 dy3 pr3 po3 s3 _ sa3 => ?_
    have ST := SS.same s3
    have fcT := fcS.same s3
    have saT := saS.same s3
    clear SS fcS saS s3 g
    refine ⟨x, dx, _, rfl, ST.made.ins, .ins sa3.ins, x, dx, pr, po, rs, os, z, _, rfl, ST.made, .inr ⟨y3, dy3, pr3, po3, rs, os, _, _, _, _, _, rfl, sa3, .tup ST.made.rows (rows_dp ST.pd l10), .tup sa3.rows (rows_dp ST.pd l10), .tup ST.made.own (ow _), .tup sa3.own (ow _), shT, shT, shO, shO, _, rfl, ?_⟩⟩
    rw [if_neg zn5]
    refine iteF ?_
    clear sa3
    -- the rest
    refine ⟨_, rfl, _, rfl, _, rfl, (by show 1 ≤ sizeLine; decide), fun l hl => ⟨rfl, rfl, ?_⟩⟩
    have sl := Same.new (o := .lst [.str "zz"]) hl
    have SU := ST.same sl
    have fcU := fcT.same sl
    have saU := saT.same sl
    have g := SU.good l1 l10 hos hzn
    refine mkS_ok (os := [.str "zz"]) ⟨g.z1, g.z2, g.l1, g.l10, g.rv, g.am, by decide +kernel⟩ (.lst SU.rows.e) (.lst upd_same) fun H3 y3 dy3 pr3 po3 s3 _ sa3 => ?_
    have SV := SU.same s3
    have fcV := fcU.same s3
    have saV := saU.same s3
    clear ST fcT saT SU fcU saU sl g
    refine ⟨x, dx, _, y3, dy3, _, rfl, rfl, SV.made.ins, sa3.ins, x, dx, pr, po, rs, os, z, _, rfl, SV.made, .inr ⟨y3, dy3, pr3, po3, rs, [.str "zz"], z, _, _, _, .tuple [.str "zz"], rfl, sa3, .tup SV.made.rows (rows_dp SV.pd l10), .tup sa3.rows (rows_dp SV.pd l10), .tup SV.made.own (ow _), .tup sa3.own (.cons (.str _) .nil), shT, shT, shO, by decide +kernel, _, rfl, _, rfl, ?_⟩⟩
    rw [if_pos rfl, if_pos eqT, og.ne]
    refine iteT ?_
    clear sa3
    obtain ⟨v0, hv0⟩ : ∃ v, rs[j]? = some v := ⟨_, List.getElem?_eq_getElem hj⟩
    obtain ⟨d1, hd1, dp1⟩ := dpAll_at (K := K) (rows_dp SV.pd l10) hv0
    obtain ⟨xs1, hxs1, exs⟩ : ∃ xs, xs ∈ xss ∧ dRow xs = d1 := List.mem_map.mp (List.mem_of_getElem? hd1)
    subst exs
    obtain ⟨_, zc1, zc2⟩ := zz_no l10 (xmem xs1 hxs1)
    have eS : PyData.eqv (.tuple (setD (xss.map dRow) j (dRow [.str "close", .str "zz"]))) (.tuple (xss.map dRow)) = false := eqv_set hd1 zc1
    refine ⟨_, rfl, _, rfl, y, dy, _, rfl, saV.ins, .ins SV.made.ins, y, dy, pr2, po2, setL rs j (.ref c), os, z, _, rfl, saV, .inr ⟨x, dx, pr, po, rs, os, z, _, _, _, _, rfl, SV.made, .tup saV.rows (dpAll_set j (rows_dp SV.pd l10) (cdp fcV)), .tup SV.made.rows (rows_dp SV.pd l10), .tup saV.own (ow _), .tup SV.made.own (ow _), shS, shT, shO, shO, ?_⟩⟩
    rw [if_pos rfl, if_neg (by rw [eS]; simp)]
    refine ⟨_, rfl, _, rfl, R, _, _, v0, rfl, rfl, .inl (.inl SV.rows.e), atI_nat hv0, _, rfl, dRow xs1, dRow [.str "close", .str "zz"], dp1, cdp fcV, shaped_of (lay _ (List.mem_map.mpr ⟨xs1, hxs1, rfl⟩)), by decide +kernel, ?_⟩
    rw [zc2]
    refine ⟨rfl, _, rfl, iteT ?_⟩
    refine ⟨_, rfl, _, rfl, _, rs, rfl, .lst SV.rows.e, fun t9 HW sW eW => ?_⟩
    have SW := SV.same sW
    refine ⟨x, dx, _, t9, rs, rfl, rfl, SW.made.ins, eW, x, dx, pr, po, rs, os, z, _, rfl, SW.made, .inl ⟨t9, rs, rfl, eW, false, rfl, ?_⟩⟩
    exact k _ SW.mv SW.pool SW.tabs
end

/-! ### texts of lists of rows -/
theorem strOk_app (a b : Str) : PyData.strOk (a ++ b) = (PyData.strOk a && PyData.strOk b) := by
  cases a with
  | mk a =>
    cases b with
    | mk b =>
      show (a ++ b).all _ = (a.all _ && b.all _)
      exact Array.all_append
theorem strOk_from : ∀ (ts : List Str) (k : Nat) (acc : Str), PyData.strOk acc = true → (∀ t ∈ ts, PyData.strOk t = true) → PyData.strOk (textFrom k acc ts) = true
  | [], _, _, h, _ => h
  | t :: ts, k, acc, h, ht => by
    refine strOk_from ts (k + 1) _ ?_ fun u hu => ht u (List.mem_cons_of_mem _ hu)
    rw [strOk_app, strOk_app, h, ht t (List.mem_cons_self ..), strOk_of]
    rfl
theorem strOk_list {ts : List Str} (h : ∀ t ∈ ts, PyData.strOk t = true) : PyData.strOk (listText ts) = true := by
  unfold listText
  rw [strOk_app, strOk_from ts 0 "[" (by decide +kernel) h]
  decide +kernel
theorem rows_text {m : Nat} (hm : m ≤ 10) : ∀ {xss : List (List V)}, (∀ xs ∈ xss, xs ∈ rowsAll m) → PyData.showableAll (xss.map dRow) = true ∧ PyData.depthAll (xss.map dRow) ≤ 1 ∧ (∀ t ∈ PyData.shownAll (xss.map dRow), PyData.strOk t = true) ∧
    (PyData.shownAll (xss.map dRow)).length = xss.length ∧ ((PyData.shownAll (xss.map dRow)).map (·.length)).sum ≤ 100 * xss.length
  | [], _ => ⟨rfl, Nat.zero_le _, fun _ h => (nomatch h), rfl, Nat.le_refl _⟩
  | xs :: xss, h => by
    obtain ⟨a, b, c, d, e⟩ := rows_text hm (xss := xss) fun y hy => h y (List.mem_cons_of_mem _ hy)
    have g := row_good hm (h xs (List.mem_cons_self ..))
    refine ⟨?_, ?_, ?_, ?_, ?_⟩
    · show ((dRow xs).showable && PyData.showableAll (xss.map dRow)) = true
      rw [g.sh, a]
      rfl
    · show max (dRow xs).depth (PyData.depthAll (xss.map dRow)) ≤ 1
      exact Nat.max_le.mpr ⟨g.de, b⟩
    · intro t ht
      rcases List.mem_cons.mp (show t ∈ (dRow xs).shown :: PyData.shownAll (xss.map dRow) from ht) with rfl | ht
      · exact g.ok
      · exact c t ht
    · show (PyData.shownAll (xss.map dRow)).length + 1 = xss.length + 1
      rw [d]
    · show (dRow xs).shown.length + ((PyData.shownAll (xss.map dRow)).map (·.length)).sum ≤ 100 * (xss.length + 1)
      have := g.le
      omega
theorem rows_okD {m : Nat} (hm : m ≤ 10) {xss : List (List V)} (h : ∀ xs ∈ xss, xs ∈ rowsAll m) (hl : xss.length ≤ 20) : okD (.list (xss.map dRow)) = true := by
  obtain ⟨a, b, c, d, e⟩ := rows_text hm h
  have l := PySem.listText_len_le (PyData.shownAll (xss.map dRow))
  unfold okD
  rw [show (PyData.list (xss.map dRow)).showable = true from a, decide_eq_true (show (PyData.list (xss.map dRow)).depth ≤ 50 from by show PyData.depthAll (xss.map dRow) + 1 ≤ 50; omega),
    decide_eq_true (show (PyData.list (xss.map dRow)).shown.length ≤ 100000 from by show (listText (PyData.shownAll (xss.map dRow))).length ≤ 100000; omega), show PyData.strOk (PyData.list (xss.map dRow)).shown = true from strOk_list c]
  rfl
/-! ### what is no list of rows, of own variables -/
inductive OddQ (p q : Addr) (H : Hp) (m : Nat) : V → Option (List V) → PyData → Prop
  | nil {a : Addr} (h : Sf p q H a (.lst [])) : OddQ p q H m (.ref a) (some []) (.list [])
  | non : OddQ p q H m .non none .none
  | three : OddQ p q H m (.int 3) none (.int 3)
  | rest : OddQ p q H m (.str "rest") none (.str "rest")
  | long {a : Addr} {rs : List V} {xss : List (List V)} (h : Sf p q H a (.lst rs)) (pd : Paired (RowAt p q H m) rs xss) (l : rs.length = 11) (lx : xss.length = 11) : OddQ p q H m (.ref a) (some rs) (.list (xss.map dRow))
  | dct {a : Addr} (h : Sf p q H a (.dK [])) : OddQ p q H m (.ref a) none (.dict [])
inductive OddO (p q : Addr) (H : Hp) : V → Option (List V) → PyData → Prop
  | vv {a : Addr} (h : Sf p q H a (.lst [.str "v", .str "v"])) : OddO p q H (.ref a) (some [.str "v", .str "v"]) (.list [.str "v", .str "v"])
  | vwu {a : Addr} (h : Sf p q H a (.lst [.str "v", .str "w", .str "u"])) : OddO p q H (.ref a) (some [.str "v", .str "w", .str "u"]) (.list [.str "v", .str "w", .str "u"])
  | non : OddO p q H .non none .none
  | v : OddO p q H (.str "v") none (.str "v")
  | one {a : Addr} {u : V} {d : PyData} (h : Sf p q H a (.lst [u])) (o : OddN p q H u d) (n : ∀ e, d = .list [e] ∨ d = .tuple [e] → True) : OddO p q H (.ref a) (some [u]) (.list [d])
  | two {a : Addr} {u : V} {d : PyData} (h : Sf p q H a (.lst [.str "v", u])) (o : OddN p q H u d) : OddO p q H (.ref a) (some [.str "v", u]) (.list [.str "v", d])
section
variable {p q : Addr} {H H' : Hp} {m : Nat} {v : V} {o : Option (List V)} {d : PyData}
theorem OddQ.mv (h : OddQ p q H m v o d) (b : Mv p q H H') : OddQ p q H' m v o d := by
  cases h with
  | nil h => exact .nil (h.mv b)
  | non => exact .non
  | three => exact .three
  | rest => exact .rest
  | long h pd l lx => exact .long (h.mv b) (rows_mv pd b) l lx
  | dct h => exact .dct (h.mv b)
theorem OddO.mv (h : OddO p q H v o d) (b : Mv p q H H') : OddO p q H' v o d := by
  cases h with
  | vv h => exact .vv (h.mv b)
  | vwu h => exact .vwu (h.mv b)
  | non => exact .non
  | v => exact .v
  | one h o n => exact .one (h.mv b) (o.mv b) n
  | two h o => exact .two (h.mv b) (o.mv b)
theorem OddQ.ls {K : PySem.W.Frag} (h : OddQ p q H m v o d) (hm : m ≤ 10) : LsQ K H v o ∧ (∀ rs, o = some rs → rs.length ≤ 1000 ∧ ∀ y ∈ rs, RowV H y) ∧ ∀ rs, o = some rs → ¬ (1 ≤ rs.length ∧ rs.length ≤ 10) := by
  cases h with
  | nil h => exact ⟨.yes (.lst h.e), fun rs e => by cases e; exact ⟨by decide, fun _ h => nomatch h⟩, fun rs e => by cases e; simp⟩
  | non => exact ⟨.no .non (by decide), fun _ e => (nomatch e), fun _ e => (nomatch e)⟩
  | three => exact ⟨.no (.int _) (by decide), fun _ e => (nomatch e), fun _ e => (nomatch e)⟩
  | rest => exact ⟨.no (.str _ (by decide +kernel)) (by decide), fun _ e => (nomatch e), fun _ e => (nomatch e)⟩
  | long h pd l lx => exact ⟨.yes (.lst h.e), fun rs e => by cases e; exact ⟨by omega, fun y hy => (rows_rv pd hm y hy).1⟩, fun rs e => by cases e; omega⟩
  | dct h => exact ⟨.no (.dK h.e) (by decide), fun _ e => (nomatch e), fun _ e => (nomatch e)⟩
theorem OddQ.rp {K : PySem.W.Frag} (h : OddQ p q H m v o d) (hm : m ≤ 10) : Rp K H v d := by
  cases h with
  | nil h => exact .inl (.lst (.inl (.inl h.e)) .nil)
  | non => exact .inl .non
  | three => exact .inl (.int _)
  | rest => exact .inl (.str _)
  | long h pd l lx => exact .inl (.lst (.inl (.inl h.e)) (rows_dp pd hm))
  | dct h => exact .inr ⟨_, rfl, h.e, rfl⟩
theorem OddQ.ok (h : OddQ p q H m v o d) (hm : m ≤ 10) : okD d = true := by
  cases h with
  | long h pd l lx => exact rows_okD hm (rows_mem pd) (by omega)
  | _ => decide +kernel
theorem OddO.ls {K : PySem.W.Frag} (h : OddO p q H v o d) : LsQ K H v o ∧ (∀ xs, o = some xs → xs.length ≤ 1000 ∧ ∀ x ∈ xs, ∃ n, Kd H x n) ∧ namesOk o = false := by
  have two : ∀ x ∈ ([.str "v", .str "v"] : List V), ∃ n, Kd H x n := fun x hx => by
    rcases List.mem_cons.mp hx with rfl | hx
    · exact ⟨_, .str _ (by decide +kernel)⟩
    · rw [List.mem_singleton.mp hx]
      exact ⟨_, .str _ (by decide +kernel)⟩
  cases h with
  | vv h => exact ⟨.yes (.lst h.e), fun xs e => by cases e; exact ⟨by simp, two⟩, by decide +kernel⟩
  | vwu h =>
    refine ⟨.yes (.lst h.e), fun xs e => ?_, by decide +kernel⟩
    cases e
    refine ⟨by simp, fun x hx => ?_⟩
    rcases List.mem_cons.mp hx with rfl | hx
    · exact ⟨_, .str _ (by decide +kernel)⟩
    · rcases List.mem_cons.mp hx with rfl | hx
      · exact ⟨_, .str _ (by decide +kernel)⟩
      · rw [List.mem_singleton.mp hx]
        exact ⟨_, .str _ (by decide +kernel)⟩
  | non => exact ⟨.no .non (by decide), fun _ e => (nomatch e), rfl⟩
  | v => exact ⟨.no (.str _ (by decide +kernel)) (by decide), fun _ e => (nomatch e), rfl⟩
  | @one a u d h o n =>
    refine ⟨.yes (.lst h.e), fun xs e => ?_, ?_⟩
    · cases e
      refine ⟨by simp, fun x hx => ?_⟩
      rw [List.mem_singleton.mp hx]
      exact o.kd
    · show areNames [u] 2 = false
      unfold areNames
      rw [if_pos (by simp), if_neg]
      rw [List.all_cons, o.no]
      simp
  | @two a u d h o =>
    refine ⟨.yes (.lst h.e), fun xs e => ?_, ?_⟩
    · cases e
      refine ⟨by simp, fun x hx => ?_⟩
      rcases List.mem_cons.mp hx with rfl | hx
      · exact ⟨_, .str _ (by decide +kernel)⟩
      · rw [List.mem_singleton.mp hx]
        exact o.kd
    · show areNames [.str "v", u] 2 = false
      unfold areNames
      rw [if_pos (by simp), if_neg]
      rw [List.all_cons, List.all_cons, o.no]
      simp
theorem OddN.ok2 (h : OddN p q H v d) : okD (.list [d]) = true ∧ okD (.list [.str "v", d]) = true := by
  cases h with
  | str z h =>
    have a : (["", "A", "a1", "toolongne", "a b"] : List Str).all (fun z => okD (.list [.str z]) && okD (.list [.str "v", .str z])) = true := by decide +kernel
    have b := List.all_eq_true.mp a z h
    rw [Bool.and_eq_true] at b
    exact b
  | _ => exact ⟨by decide +kernel, by decide +kernel⟩
theorem OddN.dp {K : PySem.W.Frag} (h : OddN p q H v d) : Dp K H v d := by
  cases h with
  | str z h => exact .str _
  | non => exact .non
  | three => exact .int _
  | tt => exact .bl _
  | tup h => exact .tup (.inl (.inl h.e)) (.cons (.str _) .nil)
  | lst h => exact .lst (.inl (.inl h.e)) (.cons (.str _) .nil)
theorem OddO.rp {K : PySem.W.Frag} (h : OddO p q H v o d) : Rp K H v d := by
  cases h with
  | vv h => exact .inl (.lst (.inl (.inl h.e)) (.cons (.str _) (.cons (.str _) .nil)))
  | vwu h => exact .inl (.lst (.inl (.inl h.e)) (.cons (.str _) (.cons (.str _) (.cons (.str _) .nil))))
  | non => exact .inl .non
  | v => exact .inl (.str _)
  | one h o n => exact .inl (.lst (.inl (.inl h.e)) (.cons o.dp .nil))
  | two h o => exact .inl (.lst (.inl (.inl h.e)) (.cons (.str _) (.cons o.dp .nil)))
theorem OddO.ok (h : OddO p q H v o d) : okD d = true := by
  cases h with
  | one h o n => exact o.ok2.1
  | two h o => exact o.ok2.2
  | _ => decide +kernel
end
abbrev sLaw : Stmt := top 44
def spLaw (K : PySem.W.Frag) (PT0 PT1 : Addr) : Sp := fun vs H Q _ => ∃ (a : Addr) (ns : List Int), vs = [.ref a] ∧ SqL K H a (ns.map V.int) ∧ ns.length ≤ 63 ∧ H PT0 = some (.tbl #[]) ∧ H PT1 = some (.tbl #[]) ∧ ∀ H', Q (.bl true) H'
structure LT (T : List (Addr × Str)) (p q R : Addr) (rs : List V) (xss : List (List V)) (od : V) (odd : PyData) (wr : V) (wrd : PyData) (H : Hp) : Prop where
  pool : PoolAt H p q
  tabs : LamX.Tabs T H
  rows : Sf p q H R (.lst rs)
  pd : Paired (RowAt p q H rs.length) rs xss
  o : OddN p q H od odd
  w : WrongR p q H rs.length wr wrd
section
variable {T : List (Addr × Str)} {p q R : Addr} {rs : List V} {xss : List (List V)} {od wr : V} {odd wrd : PyData} {H H' : Hp}
theorem LT.ext (h : LT T p q R rs xss od odd wr wrd H) (m : LamX.ExtN H H') (t : LamX.Tabs T H') : LT T p q R rs xss od odd wr wrd H' :=
  ⟨h.pool.ext m, t, h.rows.mv (.ext m), rows_mv h.pd (.ext m), h.o.mv (.ext m), h.w.mv (.ext m)⟩
theorem LT.same (h : LT T p q R rs xss od odd wr wrd H) (m : Same H H') : LT T p q R rs xss od odd wr wrd H' := h.ext (.of m) (h.tabs.ext m)
theorem LT.but (h : LT T p q R rs xss od odd wr wrd H) (m : But p q H H') (P : PoolAt H' p q) : LT T p q R rs xss od odd wr wrd H' :=
  ⟨P, tabs_but h.pool h.tabs m, h.rows.but m, rows_mv h.pd (.but m), h.o.mv (.but m), h.w.mv (.but m)⟩
end
theorem paired_len {α β : Type} {F : α → β → Prop} {xs : List α} {ys : List β} (h : Paired F xs ys) : xs.length = ys.length := by
  induction h with
  | nil => rfl
  | cons a _ ih => rw [List.length_cons, List.length_cons, ih]
theorem paired_app {α β : Type} {F : α → β → Prop} {xs xs' : List α} {ys ys' : List β} (h : Paired F xs ys) (h' : Paired F xs' ys') : Paired F (xs ++ xs') (ys ++ ys') := by
  induction h with
  | nil => exact h'
  | cons a _ ih => exact .cons a ih
theorem paired_rep {α β : Type} {F : α → β → Prop} {x : α} {y : β} (h : F x y) : ∀ n, Paired F (List.replicate n x) (List.replicate n y)
  | 0 => .nil
  | n + 1 => .cons h (paired_rep h n)
theorem gName_eq {i : Nat} {v w : V} {σ : L2.St} {H : Hp} {D : L2.St → Hp → Prop} (h : v = w) (g : gName i w σ H D) : gName i v σ H D := h ▸ g
theorem pool_put {p q a : Addr} {H : Hp} {o' : HO} (h : PoolAt H p q) (n1 : a ≠ p) (n2 : a ≠ q) : PoolAt (upd H a o') p q := by
  obtain ⟨ns, i, y, z, b, h1, h2, h3⟩ := h
  exact ⟨ns, i, y, z, b, by rw [upd_ne n1.symm]; exact h1, by rw [upd_ne n2.symm]; exact h2, h3⟩
theorem rep_one (v : V) (k : Nat) : (List.replicate k [v]).flatten = List.replicate k v := by
  induction k with
  | zero => rfl
  | succ k ih => rw [List.replicate_succ, List.flatten_cons, ih, List.replicate_succ]; rfl
/-- the rows with a wrong one -/
theorem bent_facts {rs : List V} {j k : Nat} {wr jp : V} (hj : j < rs.length) (hk : k = if j + 1 < rs.length then 1 else 0) :
    (rs.take j ++ [wr] ++ cutV rs (some ((j : Int) + 1)) (some (-1)) ++ List.replicate k jp).length = rs.length ∧
    (∀ y ∈ rs.take j ++ [wr] ++ cutV rs (some ((j : Int) + 1)) (some (-1)) ++ List.replicate k jp, y = wr ∨ y = jp ∨ y ∈ rs) ∧
    (∀ (i : Nat) (y : V), i < j → (rs.take j ++ [wr] ++ cutV rs (some ((j : Int) + 1)) (some (-1)) ++ List.replicate k jp)[i]? = some y → y ∈ rs) ∧
    (rs.take j ++ [wr] ++ cutV rs (some ((j : Int) + 1)) (some (-1)) ++ List.replicate k jp)[j]? = some wr := by
  have ec : cutV rs (some ((j : Int) + 1)) (some (-1)) = (rs.drop (j + 1)).take (rs.length - 1 - (j + 1)) := by
    unfold cutV
    rw [show (j : Int) + 1 = ((j + 1 : Nat) : Int) by omega, sIx_nat _ _ _ (by omega : j + 1 ≤ rs.length)]
    rw [show HT.sIx rs.length rs.length (some (-1)) = rs.length - 1 from by
      show ((-1 : Int) + (rs.length : Int)).toNat = rs.length - 1
      omega]
  have lt : (rs.take j).length = j := by rw [List.length_take]; omega
  refine ⟨?_, fun y hy => ?_, fun i y hi hy => ?_, ?_⟩
  · rw [ec, List.length_append, List.length_append, List.length_append, lt, List.length_take, List.length_drop, List.length_singleton, List.length_replicate, hk]
    split <;> omega
  · rcases List.mem_append.mp hy with hy | hy
    · rcases List.mem_append.mp hy with hy | hy
      · rcases List.mem_append.mp hy with hy | hy
        · exact .inr (.inr (List.mem_of_mem_take hy))
        · exact .inl (List.mem_singleton.mp hy)
      · rw [ec] at hy
        exact .inr (.inr (List.mem_of_mem_drop (List.mem_of_mem_take hy)))
    · exact .inr (.inl (List.eq_of_mem_replicate hy))
  · rw [List.append_assoc, List.append_assoc, List.getElem?_append_left (by omega)] at hy
    exact List.mem_of_mem_take (List.mem_of_getElem? hy)
  · rw [List.append_assoc, List.append_assoc, List.getElem?_append_right (by omega), lt, Nat.sub_self]
    rfl
section
variable {P : Program} {w : World} {K : PySem.W.Frag} {mg : Str → Option Value} {base : Heap}
theorem scLaw : FnScope ["script", "pool", "k", "many", "mine", "wrong", "at", "bent", "odd", "rows", "some", "again"] ["script"] (defScope sLaw) := ⟨rfl, rfl, rfl, by decide +kernel, rfl, by decide +kernel, by decide +kernel⟩
set_option maxHeartbeats 16000000 in
theorem ok_law {f fB fD fDr fR fB2 fWr fT fW g C cC PT0 PT1 cH aE : Addr} {cs : List Addr} {fdB fdD fdDr fdR fdB2 fdWr fdT fdW : FuncData} {ds1 : List Value}
    {oc kV doc pm ct : Value} {od an : Option Addr} {osl : Array (Option Value)} {oc' kV' doc' pm' cdv' ct' : Value} {od' an' : Option Addr} {osl' : Array (Option Value)}
    (lk : K.lookup f = some ⟨oc, od, .func (PySem.W.fnOf "law" "law" (defArgs sLaw) (defBody sLaw) (defScope sLaw) .none kV doc pm an (.ref cC) ct), osl⟩) (hcd : PySem.W.codeIn K (.ref cC) "law" = true)
    (T : HTxt K mg cH cs) (TX : RTxt mg) (PT : PTxt mg) (gS : mg "Sort" = some (.ref C)) (TB : LamX.TabB base mg cC PT1) (hne : PT0 ≠ PT1)
    (FB : Fun K "_law_begin" "_law_begin" sBegin fB fdB) (bB : Binds K fdB ["script"] []) (gB : mg "_law_begin" = some (.ref fB)) (GB : FnOk P w K mg base CX0 1 fB fdB ["script"] (spBegin K))
    (FD : Fun K "_law_draw" "_law_draw" sDraw fD fdD) (bD : Binds K fdD ["pool", "many"] []) (gD : mg "_law_draw" = some (.ref fD)) (GD : FnOk P w K mg base CX0 2 fD fdD ["pool", "many"] spDraw)
    (FDr : Fun K "_law_draw_row" "_law_draw_row" sDRow fDr fdDr) (bDr : Binds K fdDr ["pool", "names", "bolts", "many"] []) (gDr : mg "_law_draw_row" = some (.ref fDr)) (GDr : FnOk P w K mg base CX0 4 fDr fdDr ["pool", "names", "bolts", "many"] spDRow)
    (FRk : PySem.W.keepIn K (.ref fR) = true) (bR : Binds K fdR ["pool", "name", "rows", "mine"] []) (gR : mg "_law_right" = some (.ref fR)) (GR : FnG P w K mg base CX0 9 fR fdR ["pool", "name", "rows", "mine"] (spRight (TT2 PT0 PT1)))
    (FB2 : Fun K "_law_bad_name" "_law_bad_name" sBad fB2 fdB2) (bB2 : Binds K fdB2 ["pool"] []) (gB2 : mg "_law_bad_name" = some (.ref fB2)) (GB2 : FnOk P w K mg base CX0 3 fB2 fdB2 ["pool"] spBad)
    (FWr : Fun K "_law_wrong_row" "_law_wrong_row" sWrong fWr fdWr) (bWr : Binds K fdWr ["pool", "many"] []) (gWr : mg "_law_wrong_row" = some (.ref fWr)) (GWr : FnOk P w K mg base CX0 3 fWr fdWr ["pool", "many"] spWrong)
    (MH : Mk K C fT) (GT : FnOk P w K mg base (L2.CX P w) 4 fT fdT ["self", "name", "rows", "own"] (spSort K C (cs.getD 1 0) (cs.getD 2 0))) (kb : KBn K fdT ["self", "name", "rows", "own"] 3 ["own"] (fun us ws => us ++ ws) (fun vs zs => vs ++ zs))
    (bS1 : Binds K fdT ["self", "name", "rows", "own"] ds1) (dS1 : Vals [.ref aE] ds1) (sE : ∀ H, SqT K H aE [])
    (FW : Fun K "_law_which" "_law_which" sWhich fW fdW) (bW : Binds K fdW ["error"] []) (gW : mg "_law_which" = some (.ref fW))
    (gCt : mg "_law_caught" = some (.ref g)) (kCt : PySem.W.keepIn K (.ref g) = true)
    (lkC : K.lookup g = some ⟨oc', od', .func (PySem.W.fnOf "_law_caught" "_law_caught" (defArgs sCaught) (defBody sCaught) (defScope sCaught) .none kV' doc' pm' an' cdv' ct'), osl'⟩) (hcC : PySem.W.codeIn K cdv' "_law_caught" = true)
    (bCt : Binds K (PySem.W.fnOf "_law_caught" "_law_caught" (defArgs sCaught) (defBody sCaught) (defScope sCaught) .none kV' doc' pm' an' cdv' ct') ["call"] []) :
    FnG P w K mg base CX0 10 f (PySem.W.fnOf "law" "law" (defArgs sLaw) (defBody sLaw) (defScope sLaw) .none kV doc pm an (.ref cC) ct) ["script"] (spLaw K PT0 PT1) := by
  refine fnG_okC lk hcd scLaw (fun vs H Q E h => ?_) (fun A outer s H vs Q E hg hr h => ?_)
  · obtain ⟨a, ns, rfl, _⟩ := h
    rfl
  · obtain ⟨a, ns, rfl, hS, hlen, hT0, hT1, k⟩ := h
    have hgX : (cxOf CX0 P w K mg base ["script", "pool", "k", "many", "mine", "wrong", "at", "bent", "odd", "rows", "some", "again"] "law" (defScope sLaw) f (.ref cC) A outer s H E).nox.A.guards = some [] := hg
    refine ⟨_, (pss_cons (ps_set (i := 1) scLaw.nd rfl (.inr rfl) (pe_call GB (hr.mono (by decide)) rfl gB FB.kp bB .nil pass0 (pa_cons (pv 0) pa_nil)))
      (pss_cons (ps_for PassesOwn.never rfl (pi_range1 rfl PT.range (pa_cons pe_int pa_nil)) (pg_name (i := 2) scLaw.nd rfl (.inl rfl))
      (pss_cons (ps_set (i := 3) scLaw.nd rfl (.inr rfl) (pe_op op_add pe_int (pe_call GD (hr.mono (by decide)) rfl gD FD.kp bD .nil pass0 (pa_cons (pv 1) (pa_cons pe_int pa_nil)))))
        (pss_cons (ps_set (i := 4) scLaw.nd rfl (.inl rfl) (pe_slice sl_list (pe_lst (pa_cons pe_str (pa_cons pe_str pa_nil))) po_none (po_some (pe_call GD (hr.mono (by decide)) rfl gD FD.kp bD .nil pass0 (pa_cons (pv 1) (pa_cons pe_int pa_nil))))))
        (pss_cons (ps_set (i := 9) scLaw.nd rfl (.inr rfl) (pe_lc (own := [("again", 11)]) (g := gName 11) (by rfl) scLaw.nd (pi_range1 rfl PT.range (pa_cons (pv 3) pa_nil)) (blkOk_by (own := [("again", 11)]) (N := ["script", "pool", "k", "many", "mine", "wrong", "at", "bent", "odd", "rows", "some", "again"]) (sc := defScope sLaw) (by decide +kernel)) (fun _ _ _ _ _ => pg_name (i := 11) scLaw.nd rfl (Or.inl rfl)) (fun _ _ _ _ _ => pts_nil) (fun _ _ _ _ _ => pe_call GDr (hr.mono (by decide)) rfl gDr FDr.kp bDr .nil pass0 (pa_cons (pv 1) (pa_cons (pe_lst (pa_cons pe_str (pa_cons pe_str (pa_cons pe_str pa_nil)))) (pa_cons (pe_lst (pa_cons pe_str pa_nil)) (pa_cons (pv 3) pa_nil)))))))
        (pss_cons (ps_if (pt_not (pt_val (pe_callGd GR hgX (hr.mono (by decide)) rfl gR FRk bR (pa_cons (pv 1) (pa_cons (pe_slice sl_str pe_str po_none (po_some (pe_op op_add pe_int (pe_call GD (hr.mono (by decide)) rfl gD FD.kp bD .nil pass0 (pa_cons (pv 1) (pa_cons pe_int pa_nil)))))) (pa_cons (pv 9) (pa_cons (pv 4) pa_nil))))))) (pss_one (ps_ret pe_bl)) pss_nil)
        (pss_cons (ps_asg (pe_tup (pa_cons (pe_call GB2 (hr.mono (by decide)) rfl gB2 FB2.kp bB2 .nil pass0 (pa_cons (pv 1) pa_nil)) (pa_cons (pe_call GWr (hr.mono (by decide)) rfl gWr FWr.kp bWr .nil pass0 (pa_cons (pv 1) (pa_cons (pv 3) pa_nil))) pa_nil))) (pg_tup (by rfl) (pgs_cons (pg_name (i := 8) scLaw.nd rfl (.inr rfl)) (pgs_cons (pg_name (i := 5) scLaw.nd rfl (.inl rfl)) pgs_nil))))
        (pss_cons (ps_set (i := 6) scLaw.nd rfl (.inl rfl) (pe_call GD (hr.mono (by decide)) rfl gD FD.kp bD .nil pass0 (pa_cons (pv 1) (pa_cons (pv 3) pa_nil))))
        (pss_cons (ps_set (i := 7) scLaw.nd rfl (.inr rfl) (pe_op op_cat (pe_op op_cat (pe_op op_cat (pe_slice sl_list (pv 9) po_none (po_some (pv 6))) (pe_lst (pa_cons (pv 5) pa_nil))) (pe_slice sl_list (pv 9) (po_some (pe_op op_add (pv 6) pe_int)) (po_some (pe_un un_neg pe_int)))) (pe_op op_rep (pe_lst (pa_cons (pe_tup (pa_cons pe_str (pa_cons pe_int pa_nil))) pa_nil)) (pe_callTy call_int1 (by rfl) PT.int (by decide +kernel) (pa_cons (pe_cmpR op_lt (pe_op op_add (pv 6) pe_int) (pv 3) (nomark _)) pa_nil)))))
        (pss_cons (ps_if (pt_cmpR (op_neD hr.units) (LamX.pe_lamcall (T := TT2 PT0 PT1) (a := "call") (k := 6) (Ng := ["call", "e"]) (x := "_law_caught") (by rfl) gCt kCt lkC hcC bCt scCaught rfl (.inl rfl) (gives_caught T FW bW gW hgX (hr.mono (by decide))) TB rfl (List.mem_cons_of_mem _ (List.mem_singleton.mpr rfl)) (tt2_second hne) (hr.mono (by decide)) (LamX.lamS_by (show LamX.lamSB (defScope sLaw) _ = true by decide +kernel)) rfl (fun _ _ _ _ _ => rfl)
        (fun A outer s H E f c' hr2 => pe_make (E := E) MH GT (hr2.mono (by decide)) rfl gS bS1 dS1 (passes_call (takes_of rfl rfl rfl rfl) (fun _ _ _ _ h => h)) (pa_cons (pv 8) (pa_cons pe_non pa_nil)))) (pe_lst (pa_cons pe_str (pa_cons (pe_callB (id := "repr") (r := rReprD K) (call_reprD hgX hr.units) (by rfl) TX.repr (by decide +kernel) (pa_cons (pv 8) pa_nil)) pa_nil))) (nomark _)) (pss_one (ps_ret pe_bl)) pss_nil)
        (pss_cons (ps_for PassesOwn.never rfl (pi_list (pe_lst (pa_cons (pe_lst pa_nil) (pa_cons pe_non (pa_cons pe_int (pa_cons pe_str (pa_cons (pe_op op_cat (pv 9) (pe_op op_rep (pe_lst (pa_cons (pe_tup (pa_cons pe_str pa_nil)) pa_nil)) (pe_op op_sub pe_int (pv 3)))) (pa_cons pe_dnewK pa_nil)))))))) (pg_name (i := 10) scLaw.nd rfl (.inr rfl)) (pss_one (ps_if (pt_cmpR (op_neD hr.units) (LamX.pe_lamcall (T := TT2 PT0 PT1) (a := "call") (k := 6) (Ng := ["call", "e"]) (x := "_law_caught") (by rfl) gCt kCt lkC hcC bCt scCaught rfl (.inl rfl) (gives_caught T FW bW gW hgX (hr.mono (by decide))) TB rfl (List.mem_cons_of_mem _ (List.mem_singleton.mpr rfl)) (tt2_second hne) (hr.mono (by decide)) (LamX.lamS_by (show LamX.lamSB (defScope sLaw) _ = true by decide +kernel)) rfl (fun _ _ _ _ _ => rfl)
        (fun A outer s H E f c' hr2 => pe_makeK (E := E) MH GT (hr2.mono (by decide)) rfl gS kb (passes_call (takes_of rfl rfl rfl rfl) (fun _ _ _ _ h => h)) (pa_cons pe_str (pa_cons (pv 10) pa_nil)) (pk_cons pe_non pk_nil))) (pe_lst (pa_cons pe_str (pa_cons (pe_callB (id := "repr") (r := rReprD K) (call_reprD hgX hr.units) (by rfl) TX.repr (by decide +kernel) (pa_cons (pv 10) pa_nil)) pa_nil))) (nomark _)) (pss_one (ps_ret pe_bl)) pss_nil)))
        (pss_cons (ps_if (pt_cmpR (op_neD hr.units) (LamX.pe_lamcall (T := TT2 PT0 PT1) (a := "call") (k := 6) (Ng := ["call", "e"]) (x := "_law_caught") (by rfl) gCt kCt lkC hcC bCt scCaught rfl (.inl rfl) (gives_caught T FW bW gW hgX (hr.mono (by decide))) TB rfl (List.mem_cons_of_mem _ (List.mem_singleton.mpr rfl)) (tt2_second hne) (hr.mono (by decide)) (LamX.lamS_by (show LamX.lamSB (defScope sLaw) _ = true by decide +kernel)) rfl (fun _ _ _ _ _ => rfl)
        (fun A outer s H E f c' hr2 => pe_makeK (E := E) MH GT (hr2.mono (by decide)) rfl gS kb (passes_call (takes_of rfl rfl rfl rfl) (fun _ _ _ _ h => h)) (pa_cons pe_str (pa_cons (pv 7) pa_nil)) (pk_cons pe_non pk_nil))) (pe_lst (pa_cons pe_str (pa_cons (pe_callB (id := "repr") (r := rReprD K) (call_reprD hgX hr.units) (by rfl) TX.repr (by decide +kernel) (pa_cons (pv 5) pa_nil)) pa_nil))) (nomark _)) (pss_one (ps_ret pe_bl)) pss_nil)
        (pss_one (ps_for PassesOwn.never rfl (pi_list (pe_lst (pa_cons (pe_lst (pa_cons pe_str (pa_cons pe_str pa_nil))) (pa_cons (pe_lst (pa_cons pe_str (pa_cons pe_str (pa_cons pe_str pa_nil)))) (pa_cons pe_non (pa_cons pe_str (pa_cons (pe_lst (pa_cons (pv 8) pa_nil)) (pa_cons (pe_lst (pa_cons pe_str (pa_cons (pv 8) pa_nil))) pa_nil)))))))) (pg_name (i := 10) scLaw.nd rfl (.inr rfl)) (pss_one (ps_if (pt_cmpR (op_neD hr.units) (LamX.pe_lamcall (T := TT2 PT0 PT1) (a := "call") (k := 6) (Ng := ["call", "e"]) (x := "_law_caught") (by rfl) gCt kCt lkC hcC bCt scCaught rfl (.inl rfl) (gives_caught T FW bW gW hgX (hr.mono (by decide))) TB rfl (List.mem_cons_of_mem _ (List.mem_singleton.mpr rfl)) (tt2_second hne) (hr.mono (by decide)) (LamX.lamS_by (show LamX.lamSB (defScope sLaw) _ = true by decide +kernel)) rfl (fun _ _ _ _ _ => rfl)
        (fun A outer s H E f c' hr2 => pe_makeK (E := E) MH GT (hr2.mono (by decide)) rfl gS kb (passes_call (takes_of rfl rfl rfl rfl) (fun _ _ _ _ h => h)) (pa_cons pe_str (pa_cons (pv 9) pa_nil)) (pk_cons (pv 10) pk_nil))) (pe_lst (pa_cons pe_str (pa_cons (pe_callB (id := "repr") (r := rReprD K) (call_reprD hgX hr.units) (by rfl) TX.repr (by decide +kernel) (pa_cons (pv 10) pa_nil)) pa_nil))) (nomark _)) (pss_one (ps_ret pe_bl)) pss_nil)))))))))))))))
      (pss_one (ps_ret pe_bl)))), ?_⟩
    refine ⟨_, rfl, a, ns, rfl, hS, hlen, fun H1 p q s1 p0 q0 hP => ?_⟩
    have T1 : LamX.Tabs (TT2 PT0 PT1) H1 := fun r hr => by
      rcases List.mem_cons.mp hr with rfl | hr
      · exact .nil (s1 _ _ hT0)
      · rw [List.mem_singleton.mp hr]
        exact .nil (s1 _ _ hT1)
    clear hS s1 hT0 hT1 p0 q0
    have na : isName (.str "a") = true := by decide +kernel
    have ka : ∀ H', Kd H' (.str "a") "str" := fun H' => .str "a" (by decide +kernel)
    refine ⟨6, rfl, by decide, by decide, for_range (lo := 0) (n := 6) (fun i σ H' => ∃ u2 u3 u4 u5 u6 u7 u8 u9 u10 u11, σ = [some (.ref a), some (.ref p), u2, u3, u4, u5, u6, u7, u8, u9, u10, u11] ∧ PoolAt H' p q ∧ LamX.Tabs (TT2 PT0 PT1) H') ⟨_, _, _, _, _, _, _, _, _, _, rfl, hP, T1⟩ ?_ ?_⟩
    rotate_left
    · rintro σ H1' ⟨u2, u3, u4, u5, u6, u7, u8, u9, u10, u11, rfl, _, _⟩
      exact k _
    clear hP T1 H1
    rintro i σ H1 _ ⟨u2, u3, u4, u5, u6, u7, u8, u9, u10, u11, rfl, P1, T1⟩
    -- many
    refine ⟨_, rfl, p, q, 10, rfl, P1, by decide, by decide, fun H2 r b2 P2 r0 r10 => ⟨_, _, rfl, rfl, ?_⟩⟩
    have T2 := tabs_but P1 T1 b2
    obtain ⟨m, em⟩ : ∃ m : Nat, (1 : Int) + r = (m : Int) := ⟨(1 + r).toNat, by omega⟩
    refine gName_eq (show V.int ((1 : Int) + r) = V.int ((m : Nat) : Int) by rw [em]) ?_
    have m1 : 1 ≤ m := by omega
    have m10 : m ≤ 10 := by omega
    clear P1 T1 b2 H1 em r0 r10
    -- mine
    refine ⟨(by show 2 ≤ sizeLine; decide), fun l0 hl0 => ⟨_, rfl, p, q, 3, rfl, P2.same (Same.new hl0), by decide, by decide, fun H3 r3 b3 P3 r30 r33 => ⟨_, rfl, l0, _, rfl, .inl (.inl (b3 _ _ ?_ ?_ upd_same)), fun M hM => ?_⟩⟩⟩
    · exact (Sf.new (o := .lst []) P2 hl0).np
    · exact (Sf.new (o := .lst []) P2 hl0).nq
    obtain ⟨n3, rfl⟩ := Int.eq_ofNat_of_zero_le r30
    have hos : cutV [.str "v", .str "w"] none (some (n3 : Int)) ∈ ownsL := by
      match n3, r33 with
      | 0, _ => decide +kernel
      | 1, _ => decide +kernel
      | 2, _ => decide +kernel
      | n + 3, h => exact absurd h (by omega)
    have T3 := tabs_but (P2.same (Same.new hl0)) (T2.ext (Same.new hl0)) b3
    generalize cutV [.str "v", .str "w"] none (some (n3 : Int)) = os at *
    have fM : Sf p q _ M (.lst os) := Sf.new P3 hM
    have P4 := P3.same (Same.new (o := .lst os) hM)
    have T4 := T3.ext (Same.new (o := .lst os) hM)
    clear P2 T2 hl0 b3 P3 T3
    generalize upd H3 M (.lst os) = H4 at *
    clear hM
    -- rows
    refine ⟨_, rfl, (m : Int), rfl, by omega, by omega, fun R hR => lc_it (walk_range (lo := 0) (n := ((m : Nat) : Int).toNat)) (fun i' H' => Mv p q H4 H' ∧ PoolAt H' p q ∧ LamX.Tabs (TT2 PT0 PT1) H' ∧ ∃ rs xss, Sf p q H' R (.lst rs) ∧ rs.length = i' ∧ Paired (RowAt p q H' m) rs xss)
      ⟨.same (Same.new hR), P4.same (Same.new hR), T4.ext (Same.new hR), [], [], Sf.new P4 hR, rfl, .nil⟩ (fun _ _ _ _ => True.intro) ?_ ?_⟩
    · rintro i' v H5 H6 hi' ⟨m5, P5, T5, rs, xss, fR, il, pd⟩ ⟨rfl, rfl⟩
      refine ⟨rfl, _, rfl, (by show 3 ≤ sizeLine; decide), fun la hla => ⟨(by show 1 ≤ sizeLine; decide), fun lb hlb => ⟨_, rfl, p, q, la, lb, m, rfl, ?_, ?_, ?_, m10, fun H7 v xs b7 P7 rv => ?_⟩⟩⟩
      · exact (P5.same (Same.new hla)).same (Same.new hlb)
      · exact (Sf.new P5 hla).same (Same.new hlb)
      · exact Sf.new (P5.same (Same.new hla)) hlb
      have s56 := (Same.new (o := .lst [.str "v", .str "w", .str "c"]) hla).trans (Same.new (o := .lst [.str "k"]) hlb)
      have m57 : Mv p q _ _ := (Mv.same s56).trans (.but b7)
      have f7 := fR.mv m57
      have T7 := tabs_but (P5.same s56) (T5.ext s56) b7
      refine ⟨rs, f7.e, ?_, fun b o n1 n2 n3 e => ?_, pool_put P7 f7.np f7.nq, tabs_put T7 f7 _, rs ++ [v], xss ++ [xs], ⟨upd_same, f7.np, f7.nq⟩, by rw [List.length_append, il]; rfl, ?_⟩
      · rw [il]
        exact Nat.lt_trans hi' (Nat.lt_of_lt_of_le (show ((m : Nat) : Int).toNat < 11 by omega) (by decide))
      · rw [upd_ne (ne_of_none e hR)]
        exact m57 _ _ n1 n2 n3 (m5 _ _ n1 n2 n3 e)
      · have up : ∀ {w : V} {ys : List V}, RowAt p q H7 m w ys → RowAt p q (upd H7 R (.lst (rs ++ [v]))) m w ys := fun ⟨t, e1, e2, e3⟩ => ⟨t, e1, ⟨by
          rw [upd_ne fun z => by rw [z] at e2; have := e2.e; rw [f7.e] at this; cases this]
          exact e2.e, e2.np, e2.nq⟩, e3⟩
        exact (paired_imp (fun _ _ h => up (RowAt.mv h m57)) pd).snoc (up rv)
    rintro H5 ⟨m5, P5, T5, rs, xss, fR, il, pd⟩
    have em : m = rs.length := by omega
    subst em
    have fM5 := fM.mv m5
    clear m5 P4 T4 fM hR il
    -- the law of one sort
    refine ⟨_, rfl, _, rfl, p, q, 4, rfl, P5, by decide, by decide, fun H6 r6 b6 P6 r60 r64 => ⟨_, _, rfl, rfl, _, rfl, _, rfl, by decide, ?_⟩⟩
    have T6 := tabs_but P5 T5 b6
    have fR6 := fR.but b6
    have fM6 := fM5.but b6
    have pd6 := rows_mv pd (.but b6)
    obtain ⟨n6, rfl⟩ := Int.eq_ofNat_of_zero_le r60
    have hz : cutS "sort" none (some (1 + (n6 : Int))) ∈ namesZ := by
      match n6, r64 with
      | 0, _ => decide +kernel
      | 1, _ => decide +kernel
      | 2, _ => decide +kernel
      | 3, _ => decide +kernel
      | n + 4, h => exact absurd h (by omega)
    refine ⟨_, rfl, _, rfl, p, q, R, M, _, rs, os, xss, rfl, P6, T6, fR6, fM6, pd6, m1, m10, hos, hz, fun H7 m7 P7 T7 => ⟨_, rfl, iteF ?_⟩⟩
    have fR7 := fR6.mv m7
    have pd7 := rows_mv pd6 m7
    clear fM5 fM6 fR fR6 pd pd6 P5 T5 P6 T6 b6 m7 hz
    -- odd, wrong
    refine ⟨_, rfl, p, q, rfl, P7, fun H8 od odd b8 P8 o8 => ⟨_, rfl, _, rfl, p, q, rs.length, rfl, P8, m10, fun H9 wr wrd b9 P9 w9 => ⟨(by show 2 ≤ sizeLine; decide), fun tp htp => ?_⟩⟩⟩
    have L9 : LT (TT2 PT0 PT1) p q R rs xss od odd wr wrd H9 := ⟨P9, tabs_but P8 (tabs_but P7 T7 b8) b9, (fR7.but b8).but b9, rows_mv (rows_mv pd7 (.but b8)) (.but b9), o8.mv (.but b9), w9⟩
    have st := Same.new (o := .tup [od, wr]) htp
    have LA := L9.same st
    refine ⟨tp, _, rfl, .inl (.inl upd_same), rfl, _, _, rfl, _, _, rfl, rfl, ?_⟩
    clear L9 w9 P9 b9 o8 P8 b8 P7 T7 fR7 pd7 st
    generalize upd H9 tp (.tup [od, wr]) = HA at *
    clear htp
    -- at
    refine ⟨_, rfl, _, rfl, p, q, _, rfl, LA.pool, by omega, by omega, fun HB rj bB PB rj0 rj1 => ?_⟩
    obtain ⟨j, rfl⟩ := Int.eq_ofNat_of_zero_le rj0
    have hj : j < rs.length := by omega
    have LB := LA.but bB PB
    clear LA bB PB
    -- bent
    refine ⟨_, rfl, _, rfl, _, rfl, R, rs, rfl, .inl (.inl LB.rows.e), fun l1 hl1 => ?_⟩
    have t1 := Same.new (o := .lst (cutV rs none (some (j : Int)))) hl1
    refine ⟨_, rfl, (by show 1 ≤ sizeLine; decide), fun l2 hl2 => ?_⟩
    have t2 := Same.new (o := .lst [wr]) hl2
    have lnA : (cutV rs none (some (j : Int))).length ≤ 10 := by
      rw [cut_to rs j (by omega), List.length_take]
      omega
    refine ⟨l1, l2, _, _, rfl, rfl, t2 _ _ upd_same, upd_same, Nat.le_trans (Nat.add_le_add_right lnA _) (by show 11 ≤ sizeLine; decide), fun l3 hl3 => ?_⟩
    have t3 := Same.new (o := .lst (cutV rs none (some (j : Int)) ++ [wr])) hl3
    have t13 := (t1.trans t2).trans t3
    have e3 : (upd (upd (upd HB l1 (.lst (cutV rs none (some (j : Int))))) l2 (.lst [wr])) l3 (.lst (cutV rs none (some (j : Int)) ++ [wr]))) l3 = _ := upd_same
    have LC := LB.same t13
    clear LB t1 t2 t3 t13
    generalize upd (upd (upd HB l1 (.lst (cutV rs none (some (j : Int))))) l2 (.lst [wr])) l3 (.lst (cutV rs none (some (j : Int)) ++ [wr])) = HC at *
    clear hl1 hl2 hl3
    refine ⟨_, rfl, _, rfl, _, _, rfl, rfl, _, rfl, _, rfl, _, rfl, R, rs, rfl, .inl (.inl LC.rows.e), fun l4 hl4 => ?_⟩
    have t4 := Same.new (o := .lst (cutV rs (some ((j : Int) + 1)) (some (-1)))) hl4
    have lnB : (cutV rs (some ((j : Int) + 1)) (some (-1))).length ≤ 10 := by
      have h : (cutV rs (some ((j : Int) + 1)) (some (-1))).length ≤ rs.length := by
        unfold cutV
        rw [List.length_take, List.length_drop]
        omega
      omega
    refine ⟨l3, l4, _, _, rfl, rfl, t4 _ _ e3, upd_same, ?_, fun l5 hl5 => ?_⟩
    · rw [List.length_append]
      exact Nat.le_trans (show (cutV rs none (some (j : Int))).length + 1 + (cutV rs (some ((j : Int) + 1)) (some (-1))).length ≤ 21 by omega) (by decide)
    have t5 := Same.new (o := .lst (cutV rs none (some (j : Int)) ++ [wr] ++ cutV rs (some ((j : Int) + 1)) (some (-1)))) hl5
    have t45 := t4.trans t5
    have e5 : (upd (upd HC l4 (.lst (cutV rs (some ((j : Int) + 1)) (some (-1))))) l5 (.lst (cutV rs none (some (j : Int)) ++ [wr] ++ cutV rs (some ((j : Int) + 1)) (some (-1))))) l5 = _ := upd_same
    have LD := LC.same t45
    clear LC t4 t5 t45 e3
    generalize upd (upd HC l4 (.lst (cutV rs (some ((j : Int) + 1)) (some (-1))))) l5 (.lst (cutV rs none (some (j : Int)) ++ [wr] ++ cutV rs (some ((j : Int) + 1)) (some (-1)))) = HD at *
    clear hl4 hl5
    refine ⟨(by show 2 ≤ sizeLine; decide), fun jp hjp => ?_⟩
    have t6 := Same.new (o := .tup [.str "jump", .int 1]) hjp
    have ej : (upd HD jp (.tup [.str "jump", .int 1])) jp = _ := upd_same
    have LE := LD.same t6
    have fj : Sf p q _ jp (.tup [.str "jump", .int 1]) := Sf.new LD.pool hjp
    have e6 := t6 _ _ e5
    clear LD t6 e5 ej
    generalize upd HD jp (.tup [.str "jump", .int 1]) = HE at *
    clear hjp
    refine ⟨(by show 1 ≤ sizeLine; decide), fun l6 hl6 => ?_⟩
    have t7 := Same.new (o := .lst [.ref jp]) hl6
    obtain ⟨kk, hkk, ekk⟩ : ∃ kk : Nat, kk = (if j + 1 < rs.length then 1 else 0) ∧ (if decide ((j : Int) + 1 < (rs.length : Nat)) = true then (1 : Int) else 0) = (kk : Int) := by
      by_cases h : j + 1 < rs.length
      · exact ⟨1, by rw [if_pos h], by rw [if_pos (decide_eq_true (by omega))]; rfl⟩
      · exact ⟨0, by rw [if_neg h], by rw [if_neg (by rw [decide_eq_false (by omega)]; simp)]; rfl⟩
    refine ⟨_, rfl, _, _, rfl, rfl, _, rfl, _, _, rfl, rfl, .inr ⟨_, rfl, ?_⟩⟩
    rw [ekk]
    have kk1 : kk ≤ 1 := by
      rw [hkk]
      split <;> omega
    refine ⟨l6, (kk : Int), _, rfl, rfl, upd_same, by omega, by omega, ?_, fun l7 hl7 => ?_⟩
    · show 1 * ((kk : Nat) : Int).toNat ≤ sizeLine
      exact Nat.le_trans (show 1 * ((kk : Nat) : Int).toNat ≤ 1 by omega) (by decide)
    rw [Int.toNat_natCast, rep_one]
    have t8 := Same.new (o := .lst (List.replicate kk (.ref jp))) hl7
    have t78 := t7.trans t8
    have e8 : (upd (upd HE l6 (.lst [.ref jp])) l7 (.lst (List.replicate kk (.ref jp)))) l7 = _ := upd_same
    have LF := LE.same t78
    have fjF := fj.same t78
    have e6F := t78 _ _ e6
    clear LE fj e6 t7 t8 t78
    generalize upd (upd HE l6 (.lst [.ref jp])) l7 (.lst (List.replicate kk (.ref jp))) = HF at *
    clear hl6 hl7
    refine ⟨l5, l7, _, _, rfl, rfl, e6F, e8, ?_, fun B hB => ?_⟩
    · rw [List.length_append, List.length_append, List.length_replicate]
      exact Nat.le_trans (show (cutV rs none (some (j : Int))).length + 1 + (cutV rs (some ((j : Int) + 1)) (some (-1))).length + kk ≤ 30 by omega) (by decide)
    rw [cut_to rs j (by omega)]
    obtain ⟨bl, bm, bf, bj⟩ := bent_facts (wr := wr) (jp := .ref jp) hj hkk
    generalize ebs : rs.take j ++ [wr] ++ cutV rs (some ((j : Int) + 1)) (some (-1)) ++ List.replicate kk (.ref jp) = bs at *
    have t9 := Same.new (o := .lst bs) hB
    have fB' : Sf p q _ B (.lst bs) := Sf.new LF.pool hB
    have LG := LF.same t9
    have fjG := fjF.same t9
    clear LF fjF e6F e8 t9 ebs lnA lnB
    generalize upd HF B (.lst bs) = HG at *
    clear hB hkk ekk kk1
    have jrv : ∀ {H' : Hp}, Sf p q H' jp (.tup [.str "jump", .int 1]) → RowV H' (.ref jp) := fun f => .inr ⟨jp, _, rfl, f.e, by decide, fun x hx => by
      rcases List.mem_cons.mp hx with rfl | hx
      · exact ⟨_, .str _ (by decide +kernel)⟩
      · rw [List.mem_singleton.mp hx]
        exact ⟨_, .int _⟩⟩
    -- Sort(odd, None)
    refine ⟨LG.tabs, fun HH ex tx E1 hE1 => ?_⟩
    have LH := LG.ext ex tx
    have fjH := fjG.mv (.ext ex)
    have fBH := fB'.mv (.ext ex)
    clear LG fjG fB'
    obtain ⟨ko, hko⟩ := LH.o.kd
    have noO := LH.o.no
    refine ⟨_, rfl, mkS_gen hko (.no .non (by decide)) (fun _ e => (nomatch e)) (.yes (.tup (sE _))) (fun xs e => by cases e; exact ⟨by decide, fun _ h => nomatch h⟩) (fun _ dd HI sI eI => hE1 _ _ _ ⟨1, dd, od, odd, by decide, rfl, rfl, eI, (LH.same sI).o.rp, LH.o.ok, fun HJ r sJ eJ => ?_⟩) (fun q => absurd q (by rw [noO]; simp)) (fun q => absurd q (by rw [noO]; simp))⟩
    have sIJ := sI.trans sJ
    have LJ := LH.same sIJ
    have fjJ := fjH.mv (.same sIJ)
    have fBJ := fBH.mv (.same sIJ)
    clear LH fjH fBH hE1 sI eI sJ ex tx sIJ
    refine ⟨_, rfl, od, odd, rfl, LJ.o.rp, LJ.o.ok, (by show 2 ≤ sizeLine; decide), fun l hl => ?_⟩
    have sl := Same.new (o := .lst [.str "name", .str odd.shown]) hl
    have okz := okD_strOk LJ.o.ok
    have LK := LJ.same sl
    have fjK := fjJ.mv (.same sl)
    have fBK := fBJ.mv (.same sl)
    refine ⟨_, _, dp_two (sl _ _ eJ), dp_two upd_same, shaped_two okz, shaped_two okz, _, rfl, ifTwo ?_⟩
    clear LJ fjJ fBJ eJ sl okz
    generalize upd HJ l (.lst [.str "name", .str odd.shown]) = HK at *
    clear hl
    -- no rows
    refine ⟨(by show 0 ≤ sizeLine; decide), fun n0 hn0 => ?_⟩
    have c1 := Same.new (o := .lst []) hn0
    have fn1 : Sf p q _ n0 (.lst []) := Sf.new LK.pool hn0
    have LL := LK.same c1
    have fjL := fjK.mv (.same c1)
    have fBL := fBK.mv (.same c1)
    clear LK fjK fBK c1
    generalize upd HK n0 (.lst []) = HL at *
    clear hn0
    refine ⟨_, rfl, (by show 1 ≤ sizeLine; decide), fun rt hrt => ?_⟩
    have c2 := Same.new (o := .tup [.str "rest"]) hrt
    have frt : Sf p q _ rt (.tup [.str "rest"]) := Sf.new LL.pool hrt
    have LM := LL.same c2
    have fjM := fjL.mv (.same c2)
    have fBM := fBL.mv (.same c2)
    have fn2 := fn1.same c2
    clear LL fjL fBL c2 fn1
    generalize upd HL rt (.tup [.str "rest"]) = HM at *
    clear hrt
    refine ⟨(by show 1 ≤ sizeLine; decide), fun l8 hl8 => ?_⟩
    have c3 := Same.new (o := .lst [.ref rt]) hl8
    refine ⟨_, rfl, _, _, rfl, rfl, l8, 11 - ((rs.length : Nat) : Int), _, rfl, rfl, upd_same, by omega, by omega, ?_, fun l9 hl9 => ?_⟩
    · show 1 * (11 - ((rs.length : Nat) : Int)).toNat ≤ sizeLine
      exact Nat.le_trans (show 1 * (11 - ((rs.length : Nat) : Int)).toNat ≤ 11 by omega) (by decide)
    rw [show (11 - ((rs.length : Nat) : Int)).toNat = 11 - rs.length by omega, rep_one]
    have c4 := Same.new (o := .lst (List.replicate (11 - rs.length) (.ref rt))) hl9
    have c34 := c3.trans c4
    have e9 : (upd (upd HM l8 (.lst [.ref rt])) l9 (.lst (List.replicate (11 - rs.length) (.ref rt)))) l9 = _ := upd_same
    have LN := LM.same c34
    have fjN := fjM.mv (.same c34)
    have fBN := fBM.mv (.same c34)
    have fn3 := fn2.same c34
    have frtN := frt.same c34
    clear LM fjM fBM fn2 frt c3 c4 c34
    generalize upd (upd HM l8 (.lst [.ref rt])) l9 (.lst (List.replicate (11 - rs.length) (.ref rt))) = HN at *
    clear hl8 hl9
    refine ⟨R, l9, _, _, rfl, rfl, LN.rows.e, e9, ?_, fun lg hlg => ?_⟩
    · rw [List.length_replicate]
      exact Nat.le_trans (show rs.length + (11 - rs.length) ≤ 11 by omega) (by decide)
    have c5 := Same.new (o := .lst (rs ++ List.replicate (11 - rs.length) (.ref rt))) hlg
    have flg : Sf p q _ lg (.lst (rs ++ List.replicate (11 - rs.length) (.ref rt))) := Sf.new LN.pool hlg
    have LO := LN.same c5
    have fjO := fjN.mv (.same c5)
    have fBO := fBN.mv (.same c5)
    have fn4 := fn3.same c5
    have frtO := frtN.same c5
    clear LN fjN fBN fn3 frtN c5 e9
    generalize upd HN lg (.lst (rs ++ List.replicate (11 - rs.length) (.ref rt))) = HO at *
    clear hlg
    refine fun d0 hd0 => ?_
    have c6 := Same.new (o := .dK []) hd0
    have fd0 : Sf p q _ d0 (.dK []) := Sf.new LO.pool hd0
    have LP := LO.same c6
    have fjP := fjO.mv (.same c6)
    have fBP := fBO.mv (.same c6)
    have fn5 := fn4.same c6
    have frtP := frtO.same c6
    have flgP := flg.same c6
    clear LO fjO fBO fn4 frtO flg c6
    generalize upd HO d0 (.dK []) = HP at *
    clear hd0
    refine ⟨(by show 6 ≤ sizeLine; decide), fun Li hLi => ?_⟩
    have c7 := Same.new (o := .lst [.ref n0, .non, .int 3, .str "rest", .ref lg, .ref d0]) hLi
    have eLi : (upd HP Li (.lst [.ref n0, .non, .int 3, .str "rest", .ref lg, .ref d0])) Li = _ := upd_same
    have LQ := LP.same c7
    have fjQ := fjP.mv (.same c7)
    have fBQ := fBP.mv (.same c7)
    have items : ∀ (i3 : Nat) (v : V), ([.ref n0, .non, .int 3, .str "rest", .ref lg, .ref d0] : List V)[i3]? = some v → ∃ o d, OddQ p q (upd HP Li (.lst [.ref n0, .non, .int 3, .str "rest", .ref lg, .ref d0])) rs.length v o d := fun i3 v hv => by
      have xl := paired_len LQ.pd
      match i3, hv with
      | 0, e => cases e; exact ⟨_, _, .nil (fn5.same c7)⟩
      | 1, e => cases e; exact ⟨_, _, .non⟩
      | 2, e => cases e; exact ⟨_, _, .three⟩
      | 3, e => cases e; exact ⟨_, _, .rest⟩
      | 4, e =>
        cases e
        refine ⟨_, _, .long (xss := xss ++ List.replicate (11 - rs.length) [.str "rest"]) (flgP.same c7) (paired_app LQ.pd (paired_rep ⟨rt, rfl, frtP.same c7, mem_rest⟩ _)) ?_ ?_⟩
        · rw [List.length_append, List.length_replicate]
          omega
        · rw [List.length_append, List.length_replicate]
          omega
      | 5, e => cases e; exact ⟨_, _, .dct (fd0.same c7)⟩
    clear LP fjP fBP fn5 frtP flgP fd0 c7
    generalize upd HP Li (.lst [.ref n0, .non, .int 3, .str "rest", .ref lg, .ref d0]) = HQ at *
    clear hLi
    refine ⟨Li, rfl, ⟨_, .inl (.inl eLi)⟩, for_list (xs := [.ref n0, .non, .int 3, .str "rest", .ref lg, .ref d0]) (fun _ σ H' => ∃ u10, σ = [some (.ref a), some (.ref p), some (.int (0 + (i : Nat))), some (.int (rs.length : Nat)), some (.ref M), some wr, some (.int (j : Nat)), some (.ref B), some od, some (.ref R), u10, u11] ∧
      LT (TT2 PT0 PT1) p q R rs xss od odd wr wrd H' ∧ Sf p q H' jp (.tup [.str "jump", .int 1]) ∧ Sf p q H' B (.lst bs) ∧ H' Li = some (.lst [.ref n0, .non, .int 3, .str "rest", .ref lg, .ref d0]) ∧
      ∀ (i3 : Nat) (v : V), ([.ref n0, .non, .int 3, .str "rest", .ref lg, .ref d0] : List V)[i3]? = some v → ∃ o d, OddQ p q H' rs.length v o d) ⟨_, rfl, LQ, fjQ, fBQ, eLi, items⟩ (fun _ _ _ _ e => .inl (.inl e.choose_spec.2.2.2.2.1)) ?_ ?_⟩
    · rintro i3 v σ HR hv ⟨u10', rfl, LR, fjR, fBR, eLR, itR⟩
      refine ⟨LR.tabs, fun HS ex tx E1 hE1 => ?_⟩
      have LS := LR.ext ex tx
      have fjS := fjR.mv (.ext ex)
      have fBS := fBR.mv (.ext ex)
      have eLS := ex _ _ eLR (fun _ e => by cases e)
      have itS : ∀ (i3 : Nat) (v : V), ([.ref n0, .non, .int 3, .str "rest", .ref lg, .ref d0] : List V)[i3]? = some v → ∃ o d, OddQ p q HS rs.length v o d := fun i v h => by
        obtain ⟨o, d, q⟩ := itR i v h
        exact ⟨o, d, q.mv (.ext ex)⟩
      clear LR fjR fBR eLR itR
      obtain ⟨o, d, oq⟩ := itS i3 v hv
      obtain ⟨q1, q2, q3⟩ := oq.ls (K := K) m10
      refine ⟨_, rfl, rfl, rfl, mkS_gen (ka _) q1 q2 (.no .non (by decide)) (fun _ e => (nomatch e)) (fun q => absurd na (by rw [q]; simp)) (fun _ _ dd HI sI eI => hE1 _ _ _ ⟨2, dd, v, d, by decide, rfl, rfl, eI, rp_same (oq.rp m10) sI, oq.ok m10, fun HJ r sJ eJ => ?_⟩) (fun _ rs' e l1' l10' => absurd ⟨l1', l10'⟩ (q3 rs' e))⟩
      have sIJ := sI.trans sJ
      refine ⟨_, rfl, v, d, rfl, rp_same (oq.rp m10) sIJ, oq.ok m10, (by show 2 ≤ sizeLine; decide), fun l hl => ?_⟩
      have sl := Same.new (o := .lst [.str "row", .str d.shown]) hl
      have okz := okD_strOk (oq.ok m10)
      have sa := sIJ.trans sl
      refine ⟨_, _, dp_two (sl _ _ eJ), dp_two upd_same, shaped_two okz, shaped_two okz, _, rfl, ifTwo ⟨_, rfl, LS.same sa, fjS.mv (.same sa), fBS.mv (.same sa), sa _ _ eLS, fun i v h => ?_⟩⟩
      obtain ⟨o', d', q'⟩ := itS i v h
      exact ⟨o', d', q'.mv (.same sa)⟩
    clear items LQ fjQ fBQ eLi HQ
    rintro σ HQ ⟨u10', rfl, LQ, fjQ, fBQ, _, _⟩
    -- Sort('a', bent, None)
    refine ⟨LQ.tabs, fun HR ex tx E1 hE1 => ?_⟩
    have LR := LQ.ext ex tx
    have fBR := fBQ.mv (.ext ex)
    have fjR := fjQ.mv (.ext ex)
    clear LQ fBQ fjQ
    have rvs : ∀ y ∈ bs, RowV HR y := fun y hy => by
      rcases bm y hy with rfl | rfl | hy
      · exact (LR.w.rv m10).1
      · exact jrv fjR
      · exact (rows_rv LR.pd m10 y hy).1
    refine ⟨_, rfl, rfl, rfl, mkS_gen (ka _) (.yes (.lst fBR.e)) (fun rs' e => by cases e; exact ⟨by omega, rvs⟩) (.no .non (by decide)) (fun _ e => (nomatch e)) (fun q => absurd na (by rw [q]; simp)) (fun _ q => absurd ⟨by omega, by omega⟩ (q bs rfl)) (fun _ rs' e _ _ => ?_)⟩
    cases e
    have wf := (LR.w.rv m10).2
    have fin : Bad E1 HR (cs.getD 2 0) wr := fun dd HI sI eI => hE1 _ _ _ ⟨2, dd, wr, wrd, by decide, rfl, rfl, eI, rp_same (LR.w.rp m10) sI, LR.w.ok m10, fun HJ r sJ eJ => ?_⟩
    · refine ⟨fun i y hy hb hall => ?_, fun all => ?_⟩
      · rw [bl] at hb hall
        rcases Nat.lt_trichotomy i j with h | h | h
        · have ym := bf i y h hy
          rw [(rows_rv LR.pd m10 y ym).2] at hb
          cases hb
        · subst h
          rw [bj] at hy
          cases hy
          exact fin
        · have hw := hall j wr h bj
          rw [wf] at hw
          cases hw
      · have hw := all j wr bj
        rw [bl, wf] at hw
        cases hw
    have sIJ := sI.trans sJ
    have LS := LR.same sIJ
    clear LR fBR fjR hE1 rvs wf sI eI sJ ex tx
    refine ⟨_, rfl, wr, wrd, rfl, LS.w.rp m10, LS.w.ok m10, (by show 2 ≤ sizeLine; decide), fun l hl => ?_⟩
    have sl := Same.new (o := .lst [.str "row", .str wrd.shown]) hl
    have okz := okD_strOk (LS.w.ok m10)
    have LU := LS.same sl
    refine ⟨_, _, dp_two (sl _ _ eJ), dp_two upd_same, shaped_two okz, shaped_two okz, _, rfl, ifTwo ?_⟩
    clear LS sl okz eJ sIJ bm bf bj bl
    generalize upd HJ l (.lst [.str "row", .str wrd.shown]) = HU at *
    clear hl
    -- no own variables
    refine ⟨(by show 2 ≤ sizeLine; decide), fun x1 hx1 => ?_⟩
    have c1 := Same.new (o := .lst [.str "v", .str "v"]) hx1
    have g1 : Sf p q _ x1 (.lst [.str "v", .str "v"]) := Sf.new LU.pool hx1
    have LV := LU.same c1
    clear LU c1
    generalize upd HU x1 (.lst [.str "v", .str "v"]) = HV at *
    clear hx1
    refine ⟨(by show 3 ≤ sizeLine; decide), fun x2 hx2 => ?_⟩
    have c2 := Same.new (o := .lst [.str "v", .str "w", .str "u"]) hx2
    have g2 : Sf p q _ x2 (.lst [.str "v", .str "w", .str "u"]) := Sf.new LV.pool hx2
    have LW := LV.same c2
    have g1b := g1.same c2
    clear LV c2 g1
    generalize upd HV x2 (.lst [.str "v", .str "w", .str "u"]) = HW at *
    clear hx2
    refine ⟨_, rfl, (by show 1 ≤ sizeLine; decide), fun x3 hx3 => ?_⟩
    have c3 := Same.new (o := .lst [od]) hx3
    have g3 : Sf p q _ x3 (.lst [od]) := Sf.new LW.pool hx3
    have LX := LW.same c3
    have g1c := g1b.same c3
    have g2c := g2.same c3
    clear LW c3 g1b g2
    generalize upd HW x3 (.lst [od]) = HX at *
    clear hx3
    refine ⟨_, rfl, (by show 2 ≤ sizeLine; decide), fun x4 hx4 => ?_⟩
    have c4 := Same.new (o := .lst [.str "v", od]) hx4
    have g4 : Sf p q _ x4 (.lst [.str "v", od]) := Sf.new LX.pool hx4
    have LY := LX.same c4
    have g1d := g1c.same c4
    have g2d := g2c.same c4
    have g3d := g3.same c4
    clear LX c4 g1c g2c g3
    generalize upd HX x4 (.lst [.str "v", od]) = HY at *
    clear hx4
    refine ⟨(by show 6 ≤ sizeLine; decide), fun Lo hLo => ?_⟩
    have c5 := Same.new (o := .lst [.ref x1, .ref x2, .non, .str "v", .ref x3, .ref x4]) hLo
    have eLo : (upd HY Lo (.lst [.ref x1, .ref x2, .non, .str "v", .ref x3, .ref x4])) Lo = _ := upd_same
    have LZ := LY.same c5
    have items : ∀ (i3 : Nat) (v : V), ([.ref x1, .ref x2, .non, .str "v", .ref x3, .ref x4] : List V)[i3]? = some v → ∃ o d, OddO p q (upd HY Lo (.lst [.ref x1, .ref x2, .non, .str "v", .ref x3, .ref x4])) v o d := fun i3 v hv => by
      match i3, hv with
      | 0, e => cases e; exact ⟨_, _, .vv (g1d.same c5)⟩
      | 1, e => cases e; exact ⟨_, _, .vwu (g2d.same c5)⟩
      | 2, e => cases e; exact ⟨_, _, .non⟩
      | 3, e => cases e; exact ⟨_, _, .v⟩
      | 4, e => cases e; exact ⟨_, _, .one (g3d.same c5) LZ.o (fun _ _ => trivial)⟩
      | 5, e => cases e; exact ⟨_, _, .two (g4.same c5) LZ.o⟩
    clear LY c5 g1d g2d g3d g4
    generalize upd HY Lo (.lst [.ref x1, .ref x2, .non, .str "v", .ref x3, .ref x4]) = HZ at *
    clear hLo
    refine ⟨Lo, rfl, ⟨_, .inl (.inl eLo)⟩, for_list (xs := [.ref x1, .ref x2, .non, .str "v", .ref x3, .ref x4]) (fun _ σ H' => ∃ u10, σ = [some (.ref a), some (.ref p), some (.int (0 + (i : Nat))), some (.int (rs.length : Nat)), some (.ref M), some wr, some (.int (j : Nat)), some (.ref B), some od, some (.ref R), u10, u11] ∧
      LT (TT2 PT0 PT1) p q R rs xss od odd wr wrd H' ∧ H' Lo = some (.lst [.ref x1, .ref x2, .non, .str "v", .ref x3, .ref x4]) ∧
      ∀ (i3 : Nat) (v : V), ([.ref x1, .ref x2, .non, .str "v", .ref x3, .ref x4] : List V)[i3]? = some v → ∃ o d, OddO p q H' v o d) ⟨_, rfl, LZ, eLo, items⟩ (fun _ _ _ _ e => .inl (.inl e.choose_spec.2.2.1)) ?_ ?_⟩
    · rintro i3 v σ HR2 hv ⟨u10'', rfl, LR, eLR, itR⟩
      refine ⟨LR.tabs, fun HS ex tx E1 hE1 => ?_⟩
      have LS := LR.ext ex tx
      have eLS := ex _ _ eLR (fun _ e => by cases e)
      have itS : ∀ (i3 : Nat) (v : V), ([.ref x1, .ref x2, .non, .str "v", .ref x3, .ref x4] : List V)[i3]? = some v → ∃ o d, OddO p q HS v o d := fun i v h => by
        obtain ⟨o, d, q⟩ := itR i v h
        exact ⟨o, d, q.mv (.ext ex)⟩
      clear LR eLR itR
      obtain ⟨o, d, oq⟩ := itS i3 v hv
      obtain ⟨q1, q2, q3⟩ := oq.ls (K := K)
      refine ⟨_, rfl, _, rfl, rfl, rfl, mkS_gen (ka _) (.yes (.lst LS.rows.e)) (fun rs' e => by cases e; exact ⟨by omega, fun y hy => (rows_rv LS.pd m10 y hy).1⟩) q1 q2 (fun q => absurd na (by rw [q]; simp)) (fun _ q => absurd ⟨by omega, by omega⟩ (q rs rfl)) (fun _ rs' e _ _ => ?_)⟩
      cases e
      refine ⟨fun i y hy hb _ => ?_, fun _ => ⟨fun _ dd HI sI eI => hE1 _ _ _ ⟨1, dd, v, d, by decide, rfl, rfl, eI, rp_same oq.rp sI, oq.ok, fun HJ r sJ eJ => ?_⟩, fun os' e an => ?_⟩⟩
      · rw [(rows_rv LS.pd m10 y (List.mem_of_getElem? hy)).2] at hb
        cases hb
      · have sIJ := sI.trans sJ
        refine ⟨_, rfl, v, d, rfl, rp_same oq.rp sIJ, oq.ok, (by show 2 ≤ sizeLine; decide), fun l hl => ?_⟩
        have sl := Same.new (o := .lst [.str "name", .str d.shown]) hl
        have okz := okD_strOk oq.ok
        have sa := sIJ.trans sl
        refine ⟨_, _, dp_two (sl _ _ eJ), dp_two upd_same, shaped_two okz, shaped_two okz, _, rfl, ifTwo ⟨_, rfl, LS.same sa, sa _ _ eLS, fun i v h => ?_⟩⟩
        obtain ⟨o', d', q'⟩ := itS i v h
        exact ⟨o', d', q'.mv (.same sa)⟩
      · subst e
        rw [show namesOk (some os') = areNames os' 2 from rfl, an] at q3
        cases q3
    rintro σ HZ2 ⟨u10'', rfl, LZ2, _, _⟩
    exact ⟨_, _, _, _, _, _, _, _, _, _, rfl, LZ2.pool, LZ2.tabs⟩
end
/-! ### the errors' classes by computation -/
def exB (K : PySem.W.Frag) (C : Addr) : Bool := xfB K C && PySem.W.keepIn K (.ref C) && decide (PySem.W.findIn K (.ref C) "__class__" = some (some (.builtin "object.__class__"))) &&
  decide (PySem.W.specialIn K (.builtin "object.__class__") "__get__" = some (some (.builtin "getset_descriptor.__get__"))) && decide (PySem.W.takesIn K (.builtin "object.__class__") = some true) && decide (PySem.W.mroIn K C (.type "object") = some true)
theorem exB_ok {K : PySem.W.Frag} {C : Addr} (h : exB K C = true) : XfC K C ∧ PySem.W.keepIn K (.ref C) = true ∧ ExcC K C := by
  unfold exB at h
  simp only [Bool.and_eq_true, decide_eq_true_eq] at h
  obtain ⟨⟨⟨⟨⟨h1, h2⟩, h3⟩, h4⟩, h5⟩, h6⟩ := h
  have x := xfB_ok h1
  exact ⟨x, h2, x.ga, x.gg, x.exC, x.hdC, h3, h4, h5, h6⟩
theorem mro_refs : ∀ l : List Value, PySem.HandSPX.refsVE l = true → MroOk l := fun l h => ⟨fun v => PySem.HandSPX.refsVE_pass v l h, PySem.HandSPX.refsVE_ne h, (PySem.HandSPX.refsVE_contains "object" l h).trans (by decide +kernel)⟩
def errTab (K : PySem.W.Frag) (cs : List Addr) (cH : Addr) : Bool := (List.range 13).all fun i => exB K (cs.getD i 0) && ((List.range 13).all fun j => decide (PySem.W.kitOne K (.ref (cs.getD i 0)) (.ref (cs.getD j 0)) = some (decide (i = j)))) &&
  decide (PySem.W.kitOne K (.ref (cs.getD i 0)) (.ref cH) = some (decide (i < 11))) && decide (PySem.W.exmOne K (.ref (cs.getD i 0)) (.ref cH) = some (decide (i < 11))) && (decide (11 ≤ i) || decide (PySem.W.findIn K (.ref (cs.getD i 0)) "value" = some none))
theorem errTab_ok {K : PySem.W.Frag} {cs : List Addr} {cH : Addr} (h : errTab K cs cH = true) : ∀ i, i < 13 → exB K (cs.getD i 0) = true ∧ (∀ j, j < 13 → PySem.W.kitOne K (.ref (cs.getD i 0)) (.ref (cs.getD j 0)) = some (decide (i = j))) ∧
    PySem.W.kitOne K (.ref (cs.getD i 0)) (.ref cH) = some (decide (i < 11)) ∧ PySem.W.exmOne K (.ref (cs.getD i 0)) (.ref cH) = some (decide (i < 11)) ∧ (i < 11 → PySem.W.findIn K (.ref (cs.getD i 0)) "value" = some none) := by
  intro i hi
  have h1 := List.all_eq_true.mp h i (List.mem_range.mpr hi)
  simp only [Bool.and_eq_true, Bool.or_eq_true, decide_eq_true_eq] at h1
  obtain ⟨⟨⟨⟨h2, h3⟩, h4⟩, h5⟩, h6⟩ := h1
  exact ⟨h2, fun j hj => of_decide_eq_true (List.all_eq_true.mp h3 j (List.mem_range.mpr hj)), h4, h5, fun q => h6.elim (fun z => absurd z (by omega)) id⟩
def erB (K : PySem.W.Frag) (C fI : Addr) : Bool := decide (PySem.W.findIn K (.ref C) "__setattr__" = some (some (.builtin "object.__setattr__"))) && decide (PySem.W.subIn K (.ref C) (.type "BaseException") = some true) &&
  decide (PySem.W.typeIn K (.ref C) = some (.type "type")) && PySem.W.keepIn K (.ref C) && decide (PySem.W.findIn K (.ref C) "__init__" = some (some (.ref fI))) && decide (PySem.W.typeIn K (.ref fI) = some (.type "function")) && decide (PySem.W.findIn K (.ref C) "value" = some none)
theorem errC_mk {K : PySem.W.Frag} {mg : Str → Option Value} {x : Str} {fI C N : Addr} {nm q : Str} {bs bm : List Value} {sn : List Str} {sub : List Value} {ab : Bool} {col : Option Bool} {dd : Option Addr} {k0 k1 k2 k3 k5 : Option Value}
    (gC : mg x = some (.ref C)) (hC : K.lookup C = some (excClassObj nm q C N bs bm true sn sub ab col dd k0 k1 k2 k3 k5 "ValueError.__new__")) (hb : PySem.HandSPX.refsVE bm = true) (h : erB K C fI = true) : ErrC K mg x C fI := by
  unfold erB at h
  simp only [Bool.and_eq_true, decide_eq_true_eq] at h
  obtain ⟨⟨⟨⟨⟨⟨h1, h2⟩, h3⟩, h4⟩, h5⟩, h6⟩, h7⟩ := h
  exact ⟨gC, ⟨⟨_, _, _, _, _, _, _, _, _, _, _, _, _, _, _, hC, hb⟩, h1, h2, h3, h4⟩, ⟨⟨_, _, _, _, _, _, _, _, _, _, _, _, _, _, _, _, _, _, _, hC, F.excBase_ValueError, fun Y => PySem.HandSPX.refsVE_contains Y bm hb, mro_refs _ hb⟩, h1, h4⟩, h5, h6, h7⟩
/-- a plain class -/
def clsB (K : PySem.W.Frag) (C : Addr) : Bool := PySem.W.plainGet K C Str.empty && PySem.W.hasDictIn K C && PySem.W.plainOver K C && decide (PySem.W.findIn K (.ref C) "__setattr__" = some (some (.builtin "object.__setattr__"))) &&
  decide (PySem.W.findIn K (.ref C) "__class__" = some (some (.builtin "object.__class__"))) && decide (PySem.W.specialIn K (.builtin "object.__class__") "__get__" = some (some (.builtin "getset_descriptor.__get__"))) &&
  decide (PySem.W.takesIn K (.builtin "object.__class__") = some true) && decide (PySem.W.mroIn K C (.type "object") = some true) && PySem.W.makesIn K C && PySem.W.keepIn K (.ref C)
theorem clsB_ok {K : PySem.W.Frag} {C : Addr} (h : clsB K C = true) : Cls K C ∧ (∀ (H : Hp) (x dx : Addr) (fs : List (Str × V)), H x = some (.ins C dx fs) → TyX K H (.ref x) (.ref C)) ∧ PySem.W.makesIn K C = true ∧ PySem.W.keepIn K (.ref C) = true := by
  unfold clsB at h
  simp only [Bool.and_eq_true, decide_eq_true_eq] at h
  obtain ⟨⟨⟨⟨⟨⟨⟨⟨⟨h1, h2⟩, h3⟩, h4⟩, h5⟩, h6⟩, h7⟩, h8⟩, h9⟩, h10⟩ := h
  have c : Cls K C := ⟨h1, h2, h3, h4⟩
  exact ⟨c, fun H x dx fs e => .base (.ins e c h5 h6 h7 h8), h9, h10⟩
def noB (K : PySem.W.Frag) (C : Addr) (fs : List Str) : Bool := fs.all fun f => decide (PySem.W.findIn K (.ref C) f = some none)
theorem noB_ok {K : PySem.W.Frag} {C : Addr} {fs : List Str} (h : noB K C fs = true) : ∀ f ∈ fs, NoAttr K C f := fun f hf => (of_decide_eq_true (List.all_eq_true.mp h f hf) : PySem.W.findIn K (.ref C) f = some none)
theorem so_binds {K : PySem.W.Frag} {f aE : Addr} {fd : FuncData} (F : FunD K "__init__" "Sort.__init__" (defArgs sSInit) (defBody sSInit) (defScope sSInit) [] [("own", .ref aE)] f fd) :
    KBn K fd ["self", "name", "rows", "own"] 3 ["own"] (fun us ws => us ++ ws) (fun vs zs => vs ++ zs) ∧ ∃ ds, Vals [.ref aE] ds ∧ Binds K fd ["self", "name", "rows", "own"] ds := by
  refine ⟨?_, ?_⟩
  · obtain ⟨_, z⟩ := F.kbinds0 (ps := ["self", "name", "rows", "own"]) 3 ["own"] [] (fun {α} vs _ zs => vs ++ zs) (by simp) (fun _ h => nomatch h) (fun r1 _ r3 => r1.append r3) (fun D doc pm an cdv ct us mv ws l1 l2 l3 => by
      match us, mv, ws, l1, l2, l3 with
      | [a, b, c], [], [e], _, _, _ => rfl)
    exact z
  · exact F.binds0 (ps := ["self", "name", "rows", "own"]) 3 (by simp) rfl (fun D doc pm an cdv ct us ks l1 l2 => by
      match us, ks, l1, l2 with
      | [a, b, c], [e], _, _ => exact ⟨_, _, _, _, _, _, rfl, rfl, rfl⟩)
theorem all_mk {l : PySem.W.OpenLaw} {w : World} {K : PySem.W.Frag} {h : Heap} {mg : Str → Option Value} {fa : Addr} (X : K.In h) (G : h.Ns mainGlobals mg) (hfa : mg "law" = some (.ref fa))
    {odCo anCo : Option Addr}
    {slCo : Array (Option Value)}
    {ocCo kVCo dcCo pmCo cdCo ctCo : Value}
    {fCo : Addr}
    {odIx anIx : Option Addr}
    {slIx : Array (Option Value)}
    {ocIx kVIx dcIx pmIx cdIx ctIx : Value}
    {fIx : Addr}
    {odNa anNa : Option Addr}
    {slNa : Array (Option Value)}
    {ocNa kVNa dcNa pmNa cdNa ctNa : Value}
    {fNa : Addr}
    {odLi anLi : Option Addr}
    {slLi : Array (Option Value)}
    {ocLi kVLi dcLi pmLi cdLi ctLi : Value}
    {fLi : Addr}
    {odAn anAn : Option Addr}
    {slAn : Array (Option Value)}
    {ocAn kVAn dcAn pmAn cdAn ctAn : Value}
    {fAn : Addr}
    {odRr anRr : Option Addr}
    {slRr : Array (Option Value)}
    {ocRr kVRr dcRr pmRr cdRr ctRr : Value}
    {fRr : Addr}
    {odNe anNe : Option Addr}
    {slNe : Array (Option Value)}
    {ocNe kVNe dcNe pmNe cdNe ctNe : Value}
    {fNe : Addr}
    {odAm anAm : Option Addr}
    {slAm : Array (Option Value)}
    {ocAm kVAm dcAm pmAm cdAm ctAm : Value}
    {fAm : Addr}
    {odRp anRp : Option Addr}
    {slRp : Array (Option Value)}
    {ocRp kVRp dcRp pmRp cdRp ctRp : Value}
    {fRp : Addr}
    {odBe anBe : Option Addr}
    {slBe : Array (Option Value)}
    {ocBe kVBe dcBe pmBe cdBe ctBe : Value}
    {fBe : Addr}
    {odMi anMi : Option Addr}
    {slMi : Array (Option Value)}
    {ocMi kVMi dcMi pmMi cdMi ctMi : Value}
    {fMi : Addr}
    {odDr anDr : Option Addr}
    {slDr : Array (Option Value)}
    {ocDr kVDr dcDr pmDr cdDr ctDr : Value}
    {fDr : Addr}
    {odPk anPk : Option Addr}
    {slPk : Array (Option Value)}
    {ocPk kVPk dcPk pmPk cdPk ctPk : Value}
    {fPk : Addr}
    {odDw anDw : Option Addr}
    {slDw : Array (Option Value)}
    {ocDw kVDw dcDw pmDw cdDw ctDw : Value}
    {fDw : Addr}
    {odWh anWh : Option Addr}
    {slWh : Array (Option Value)}
    {ocWh kVWh dcWh pmWh cdWh ctWh : Value}
    {fWh : Addr}
    {odCa anCa : Option Addr}
    {slCa : Array (Option Value)}
    {ocCa kVCa dcCa pmCa cdCa ctCa : Value}
    {fCa : Addr}
    {odBa anBa : Option Addr}
    {slBa : Array (Option Value)}
    {ocBa kVBa dcBa pmBa cdBa ctBa : Value}
    {fBa : Addr}
    {odWr anWr : Option Addr}
    {slWr : Array (Option Value)}
    {ocWr kVWr dcWr pmWr cdWr ctWr : Value}
    {fWr : Addr}
    {odRe anRe : Option Addr}
    {slRe : Array (Option Value)}
    {ocRe kVRe dcRe pmRe ctRe : Value}
    {fRe : Addr}
    {cCRe PTRe : Addr}
    {ccRe : Value}
    {cd'Re : Option Addr}
    {cvRe : Array Value}
    {csRe : Array (Option Value)}
    {odLa anLa : Option Addr}
    {slLa : Array (Option Value)}
    {ocLa kVLa dcLa pmLa ctLa : Value}
    {fLa : Addr}
    {cCLa PTLa : Addr}
    {ccLa : Value}
    {cd'La : Option Addr}
    {cvLa : Array Value}
    {csLa : Array (Option Value)}
    {cH fHI : Addr}
    {C0 : Addr}
    {C1 : Addr}
    {C2 : Addr}
    {C3 : Addr}
    {C4 : Addr}
    {C5 : Addr}
    {C6 : Addr}
    {C7 : Addr}
    {C8 : Addr}
    {C9 : Addr}
    {C10 : Addr}
    {C11 : Addr}
    {C12 : Addr}
    {odHI anHI : Option Addr}
    {slHI : Array (Option Value)}
    {ocHI kVHI dcHI pmHI cdHI ctHI : Value}
    {nm0 q0 : Str}
    {N0 : Addr}
    {bs0 bm0 : List Value}
    {sn0 : List Str}
    {sub0 : List Value}
    {ab0 : Bool}
    {col0 : Option Bool}
    {dd0 : Option Addr}
    {x00 x10 x20 x30 x50 : Option Value}
    {nm1 q1 : Str}
    {N1 : Addr}
    {bs1 bm1 : List Value}
    {sn1 : List Str}
    {sub1 : List Value}
    {ab1 : Bool}
    {col1 : Option Bool}
    {dd1 : Option Addr}
    {x01 x11 x21 x31 x51 : Option Value}
    {nm2 q2 : Str}
    {N2 : Addr}
    {bs2 bm2 : List Value}
    {sn2 : List Str}
    {sub2 : List Value}
    {ab2 : Bool}
    {col2 : Option Bool}
    {dd2 : Option Addr}
    {x02 x12 x22 x32 x52 : Option Value}
    {Cd : Addr}
    {cnm cq : Str}
    {cN : Addr}
    {cbs : List Value}
    {chd : Bool}
    {csn : List Str}
    {csub : List Value}
    {cab : Bool}
    {ccol : Option Bool}
    {cdd : Option Addr}
    {y0 y1 y2 y3 y5 : Option Value}
    {cnew : String}
    {odNm anNm : Option Addr}
    {slNm : Array (Option Value)}
    {ocNm kVNm dcNm pmNm cdNm ctNm : Value}
    {fNm pNm : Addr}
    {reNm : List Value}
    {odRw anRw : Option Addr}
    {slRw : Array (Option Value)}
    {ocRw kVRw dcRw pmRw cdRw ctRw : Value}
    {fRw pRw : Addr}
    {reRw : List Value}
    {odOw anOw : Option Addr}
    {slOw : Array (Option Value)}
    {ocOw kVOw dcOw pmOw cdOw ctOw : Value}
    {fOw pOw : Addr}
    {reOw : List Value}
    {odIt anIt : Option Addr}
    {slIt : Array (Option Value)}
    {ocIt kVIt dcIt pmIt cdIt ctIt : Value}
    {fIt : Addr}
    {odLn anLn : Option Addr}
    {slLn : Array (Option Value)}
    {ocLn kVLn dcLn pmLn cdLn ctLn : Value}
    {fLn : Addr}
    {odIc anIc : Option Addr}
    {slIc : Array (Option Value)}
    {ocIc kVIc dcIc pmIc cdIc ctIc : Value}
    {fIc : Addr}
    {odEq anEq : Option Addr}
    {slEq : Array (Option Value)}
    {ocEq kVEq dcEq pmEq cdEq ctEq : Value}
    {fEq : Addr}
    {odCh anCh : Option Addr}
    {slCh : Array (Option Value)}
    {ocCh kVCh dcCh pmCh cdCh ctCh : Value}
    {fCh : Addr}
    {odIn anIn : Option Addr}
    {slIn : Array (Option Value)}
    {ocIn dcIn pmIn cdIn ctIn : Value}
    {fIn Dk : Addr}
    {aE aW : Addr}
    {ocE ocW : Value}
    {odE odW : Option Addr}
    {daE daW : PySem.Data}
    {slE slW : Array (Option Value)}
    {v0 v1 v2 v3 v4 : Value}
    (aCo : PySem.W.nsIn K mainGlobals "is_count" = some (some (.ref fCo)))
    (lCo : K.lookup fCo = some ⟨ocCo, odCo, .func (PySem.W.fnOf "is_count" "is_count" (defArgs sCount) (defBody sCount) (defScope sCount) .none kVCo dcCo pmCo anCo cdCo ctCo), slCo⟩)
    (cCo : PySem.W.codeIn K cdCo "is_count" = true)
    (kCo : PySem.W.keepIn K (.ref fCo) = true)
    (aIx : PySem.W.nsIn K mainGlobals "is_index" = some (some (.ref fIx)))
    (lIx : K.lookup fIx = some ⟨ocIx, odIx, .func (PySem.W.fnOf "is_index" "is_index" (defArgs sIndex) (defBody sIndex) (defScope sIndex) .none kVIx dcIx pmIx anIx cdIx ctIx), slIx⟩)
    (cIx : PySem.W.codeIn K cdIx "is_index" = true)
    (kIx : PySem.W.keepIn K (.ref fIx) = true)
    (aNa : PySem.W.nsIn K mainGlobals "is_name" = some (some (.ref fNa)))
    (lNa : K.lookup fNa = some ⟨ocNa, odNa, .func (PySem.W.fnOf "is_name" "is_name" (defArgs sName) (defBody sName) (defScope sName) .none kVNa dcNa pmNa anNa cdNa ctNa), slNa⟩)
    (cNa : PySem.W.codeIn K cdNa "is_name" = true)
    (kNa : PySem.W.keepIn K (.ref fNa) = true)
    (aLi : PySem.W.nsIn K mainGlobals "is_listing" = some (some (.ref fLi)))
    (lLi : K.lookup fLi = some ⟨ocLi, odLi, .func (PySem.W.fnOf "is_listing" "is_listing" (defArgs sListing) (defBody sListing) (defScope sListing) .none kVLi dcLi pmLi anLi cdLi ctLi), slLi⟩)
    (cLi : PySem.W.codeIn K cdLi "is_listing" = true)
    (kLi : PySem.W.keepIn K (.ref fLi) = true)
    (aAn : PySem.W.nsIn K mainGlobals "are_names" = some (some (.ref fAn)))
    (lAn : K.lookup fAn = some ⟨ocAn, odAn, .func (PySem.W.fnOf "are_names" "are_names" (defArgs sNames) (defBody sNames) (defScope sNames) .none kVAn dcAn pmAn anAn cdAn ctAn), slAn⟩)
    (cAn : PySem.W.codeIn K cdAn "are_names" = true)
    (kAn : PySem.W.keepIn K (.ref fAn) = true)
    (aRr : PySem.W.nsIn K mainGlobals "is_row" = some (some (.ref fRr)))
    (lRr : K.lookup fRr = some ⟨ocRr, odRr, .func (PySem.W.fnOf "is_row" "is_row" (defArgs sRow) (defBody sRow) (defScope sRow) .none kVRr dcRr pmRr anRr cdRr ctRr), slRr⟩)
    (cRr : PySem.W.codeIn K cdRr "is_row" = true)
    (kRr : PySem.W.keepIn K (.ref fRr) = true)
    (aNe : PySem.W.nsIn K mainGlobals "_names_needed" = some (some (.ref fNe)))
    (lNe : K.lookup fNe = some ⟨ocNe, odNe, .func (PySem.W.fnOf "_names_needed" "_names_needed" (defArgs sNeed) (defBody sNeed) (defScope sNeed) .none kVNe dcNe pmNe anNe cdNe ctNe), slNe⟩)
    (cNe : PySem.W.codeIn K cdNe "_names_needed" = true)
    (kNe : PySem.W.keepIn K (.ref fNe) = true)
    (aAm : PySem.W.nsIn K mainGlobals "_is_row_among" = some (some (.ref fAm)))
    (lAm : K.lookup fAm = some ⟨ocAm, odAm, .func (PySem.W.fnOf "_is_row_among" "_is_row_among" (defArgs sAmong) (defBody sAmong) (defScope sAmong) .none kVAm dcAm pmAm anAm cdAm ctAm), slAm⟩)
    (cAm : PySem.W.codeIn K cdAm "_is_row_among" = true)
    (kAm : PySem.W.keepIn K (.ref fAm) = true)
    (aRp : PySem.W.nsIn K mainGlobals "replaced" = some (some (.ref fRp)))
    (lRp : K.lookup fRp = some ⟨ocRp, odRp, .func (PySem.W.fnOf "replaced" "replaced" (defArgs sRepl) (defBody sRepl) (defScope sRepl) .none kVRp dcRp pmRp anRp cdRp ctRp), slRp⟩)
    (cRp : PySem.W.codeIn K cdRp "replaced" = true)
    (kRp : PySem.W.keepIn K (.ref fRp) = true)
    (aBe : PySem.W.nsIn K mainGlobals "_law_begin" = some (some (.ref fBe)))
    (lBe : K.lookup fBe = some ⟨ocBe, odBe, .func (PySem.W.fnOf "_law_begin" "_law_begin" (defArgs sBegin) (defBody sBegin) (defScope sBegin) .none kVBe dcBe pmBe anBe cdBe ctBe), slBe⟩)
    (cBe : PySem.W.codeIn K cdBe "_law_begin" = true)
    (kBe : PySem.W.keepIn K (.ref fBe) = true)
    (aMi : PySem.W.nsIn K mainGlobals "_law_mixed" = some (some (.ref fMi)))
    (lMi : K.lookup fMi = some ⟨ocMi, odMi, .func (PySem.W.fnOf "_law_mixed" "_law_mixed" (defArgs sMixed) (defBody sMixed) (defScope sMixed) .none kVMi dcMi pmMi anMi cdMi ctMi), slMi⟩)
    (cMi : PySem.W.codeIn K cdMi "_law_mixed" = true)
    (kMi : PySem.W.keepIn K (.ref fMi) = true)
    (aDr : PySem.W.nsIn K mainGlobals "_law_draw" = some (some (.ref fDr)))
    (lDr : K.lookup fDr = some ⟨ocDr, odDr, .func (PySem.W.fnOf "_law_draw" "_law_draw" (defArgs sDraw) (defBody sDraw) (defScope sDraw) .none kVDr dcDr pmDr anDr cdDr ctDr), slDr⟩)
    (cDr : PySem.W.codeIn K cdDr "_law_draw" = true)
    (kDr : PySem.W.keepIn K (.ref fDr) = true)
    (aPk : PySem.W.nsIn K mainGlobals "_law_pick" = some (some (.ref fPk)))
    (lPk : K.lookup fPk = some ⟨ocPk, odPk, .func (PySem.W.fnOf "_law_pick" "_law_pick" (defArgs sPick) (defBody sPick) (defScope sPick) .none kVPk dcPk pmPk anPk cdPk ctPk), slPk⟩)
    (cPk : PySem.W.codeIn K cdPk "_law_pick" = true)
    (kPk : PySem.W.keepIn K (.ref fPk) = true)
    (aDw : PySem.W.nsIn K mainGlobals "_law_draw_row" = some (some (.ref fDw)))
    (lDw : K.lookup fDw = some ⟨ocDw, odDw, .func (PySem.W.fnOf "_law_draw_row" "_law_draw_row" (defArgs sDRow) (defBody sDRow) (defScope sDRow) .none kVDw dcDw pmDw anDw cdDw ctDw), slDw⟩)
    (cDw : PySem.W.codeIn K cdDw "_law_draw_row" = true)
    (kDw : PySem.W.keepIn K (.ref fDw) = true)
    (aWh : PySem.W.nsIn K mainGlobals "_law_which" = some (some (.ref fWh)))
    (lWh : K.lookup fWh = some ⟨ocWh, odWh, .func (PySem.W.fnOf "_law_which" "_law_which" (defArgs sWhich) (defBody sWhich) (defScope sWhich) .none kVWh dcWh pmWh anWh cdWh ctWh), slWh⟩)
    (cWh : PySem.W.codeIn K cdWh "_law_which" = true)
    (kWh : PySem.W.keepIn K (.ref fWh) = true)
    (aCa : PySem.W.nsIn K mainGlobals "_law_caught" = some (some (.ref fCa)))
    (lCa : K.lookup fCa = some ⟨ocCa, odCa, .func (PySem.W.fnOf "_law_caught" "_law_caught" (defArgs sCaught) (defBody sCaught) (defScope sCaught) .none kVCa dcCa pmCa anCa cdCa ctCa), slCa⟩)
    (cCa : PySem.W.codeIn K cdCa "_law_caught" = true)
    (kCa : PySem.W.keepIn K (.ref fCa) = true)
    (aBa : PySem.W.nsIn K mainGlobals "_law_bad_name" = some (some (.ref fBa)))
    (lBa : K.lookup fBa = some ⟨ocBa, odBa, .func (PySem.W.fnOf "_law_bad_name" "_law_bad_name" (defArgs sBad) (defBody sBad) (defScope sBad) .none kVBa dcBa pmBa anBa cdBa ctBa), slBa⟩)
    (cBa : PySem.W.codeIn K cdBa "_law_bad_name" = true)
    (kBa : PySem.W.keepIn K (.ref fBa) = true)
    (aWr : PySem.W.nsIn K mainGlobals "_law_wrong_row" = some (some (.ref fWr)))
    (lWr : K.lookup fWr = some ⟨ocWr, odWr, .func (PySem.W.fnOf "_law_wrong_row" "_law_wrong_row" (defArgs sWrong) (defBody sWrong) (defScope sWrong) .none kVWr dcWr pmWr anWr cdWr ctWr), slWr⟩)
    (cWr : PySem.W.codeIn K cdWr "_law_wrong_row" = true)
    (kWr : PySem.W.keepIn K (.ref fWr) = true)
    (aRe : PySem.W.nsIn K mainGlobals "_law_right" = some (some (.ref fRe)))
    (lRe : K.lookup fRe = some ⟨ocRe, odRe, .func (PySem.W.fnOf "_law_right" "_law_right" (defArgs sRight) (defBody sRight) (defScope sRight) .none kVRe dcRe pmRe anRe (.ref cCRe) ctRe), slRe⟩)
    (cRe : PySem.W.codeIn K (.ref cCRe) "_law_right" = true)
    (kRe : PySem.W.keepIn K (.ref fRe) = true)
    (tCRe : K.lookup cCRe = some ⟨ccRe, cd'Re, .fields cvRe, csRe⟩)
    (tPRe : cvRe[11]? = some (.ref PTRe))
    (tNRe : K.lookup PTRe = none)
    (tHRe : PySem.W.codeHdIn K cCRe PTRe = true)
    (tTRe : h.get? PTRe = some { cls := .none, data := .fields #[] })
    (aLa : PySem.W.nsIn K mainGlobals "law" = some (some (.ref fLa)))
    (lLa : K.lookup fLa = some ⟨ocLa, odLa, .func (PySem.W.fnOf "law" "law" (defArgs sLaw) (defBody sLaw) (defScope sLaw) .none kVLa dcLa pmLa anLa (.ref cCLa) ctLa), slLa⟩)
    (cLa : PySem.W.codeIn K (.ref cCLa) "law" = true)
    (kLa : PySem.W.keepIn K (.ref fLa) = true)
    (tCLa : K.lookup cCLa = some ⟨ccLa, cd'La, .fields cvLa, csLa⟩)
    (tPLa : cvLa[11]? = some (.ref PTLa))
    (tNLa : K.lookup PTLa = none)
    (tHLa : PySem.W.codeHdIn K cCLa PTLa = true)
    (tTLa : h.get? PTLa = some { cls := .none, data := .fields #[] })
    (neT : PTRe ≠ PTLa)
    (hH : PySem.W.nsIn K mainGlobals "HandleError" = some (some (.ref cH)))
    (n0 : PySem.W.nsIn K mainGlobals "InvalidNumber" = some (some (.ref C0)))
    (n1 : PySem.W.nsIn K mainGlobals "InvalidName" = some (some (.ref C1)))
    (n2 : PySem.W.nsIn K mainGlobals "InvalidRow" = some (some (.ref C2)))
    (n3 : PySem.W.nsIn K mainGlobals "InvalidSort" = some (some (.ref C3)))
    (n4 : PySem.W.nsIn K mainGlobals "InvalidProgram" = some (some (.ref C4)))
    (n5 : PySem.W.nsIn K mainGlobals "InvalidText" = some (some (.ref C5)))
    (n6 : PySem.W.nsIn K mainGlobals "InvalidBook" = some (some (.ref C6)))
    (n7 : PySem.W.nsIn K mainGlobals "InvalidHands" = some (some (.ref C7)))
    (n8 : PySem.W.nsIn K mainGlobals "InvalidStep" = some (some (.ref C8)))
    (n9 : PySem.W.nsIn K mainGlobals "InvalidEdit" = some (some (.ref C9)))
    (n10 : PySem.W.nsIn K mainGlobals "InvalidCommand" = some (some (.ref C10)))
    (n11 : PySem.W.nsIn K mainGlobals "TooMany" = some (some (.ref C11)))
    (n12 : PySem.W.nsIn K mainGlobals "NothingToUndo" = some (some (.ref C12)))
    (iHI : PySem.W.findIn K (.ref cH) "__init__" = some (some (.ref fHI)))
    (lHI : K.lookup fHI = some ⟨ocHI, odHI, .func (PySem.W.fnOf "__init__" "HandleError.__init__" (defArgs sHInit) (defBody sHInit) (defScope sHInit) .none kVHI dcHI pmHI anHI cdHI ctHI), slHI⟩)
    (cHI : PySem.W.codeIn K cdHI "HandleError.__init__" = true)
    (kHI : PySem.W.keepIn K (.ref fHI) = true)
    (eT : errTab K [C0, C1, C2, C3, C4, C5, C6, C7, C8, C9, C10, C11, C12] cH = true)
    (e0 : K.lookup C0 = some (excClassObj nm0 q0 C0 N0 bs0 bm0 true sn0 sub0 ab0 col0 dd0 x00 x10 x20 x30 x50 "ValueError.__new__"))
    (m0 : PySem.HandSPX.refsVE bm0 = true)
    (r0 : erB K C0 fHI = true)
    (e1 : K.lookup C1 = some (excClassObj nm1 q1 C1 N1 bs1 bm1 true sn1 sub1 ab1 col1 dd1 x01 x11 x21 x31 x51 "ValueError.__new__"))
    (m1 : PySem.HandSPX.refsVE bm1 = true)
    (r1 : erB K C1 fHI = true)
    (e2 : K.lookup C2 = some (excClassObj nm2 q2 C2 N2 bs2 bm2 true sn2 sub2 ab2 col2 dd2 x02 x12 x22 x32 x52 "ValueError.__new__"))
    (m2 : PySem.HandSPX.refsVE bm2 = true)
    (r2 : erB K C2 fHI = true)
    (hC : PySem.W.nsIn K mainGlobals "Sort" = some (some (.ref Cd)))
    (bCl : clsB K Cd = true)
    (nCl : noB K Cd ["_name", "_rows", "_own"] = true)
    (lCl : K.lookup Cd = some (excClassObj cnm cq Cd cN cbs [.type "object"] chd csn csub cab ccol cdd y0 y1 y2 y3 y5 cnew))
    (q1 : PySem.W.notFirst K Cd (.ref Cd) = true)
    (q2 : PySem.W.notFirst K Cd (.type "str") = true)
    (q3 : PySem.W.notFirst K Cd (.type "tuple") = true)
    (qn : PySem.W.findIn K (.ref Cd) "__ne__" = some (some (.builtin "object.__ne__")))
    (kS : PySem.W.kitOne K (.ref Cd) (.ref Cd) = some true)
    (kT : PySem.W.kitOne K (.type "tuple") (.ref Cd) = some false)
    (fpNm : PySem.W.findIn K (.ref Cd) "name" = some (some (.ref pNm)))
    (gpNm : PySem.W.specialIn K (.ref pNm) "__get__" = some (some (.builtin "property.__get__")))
    (tpNm : PySem.W.takesIn K (.ref pNm) = some true)
    (rpNm : PySem.W.recIn K pNm "property" = some (.ref fNm :: reNm))
    (lNm : K.lookup fNm = some ⟨ocNm, odNm, .func (PySem.W.fnOf "name" "Sort.name" (defArgs sGetname) (defBody sGetname) (defScope sGetname) .none kVNm dcNm pmNm anNm cdNm ctNm), slNm⟩)
    (cNm : PySem.W.codeIn K cdNm "Sort.name" = true)
    (kNm : PySem.W.keepIn K (.ref fNm) = true)
    (fpRw : PySem.W.findIn K (.ref Cd) "rows" = some (some (.ref pRw)))
    (gpRw : PySem.W.specialIn K (.ref pRw) "__get__" = some (some (.builtin "property.__get__")))
    (tpRw : PySem.W.takesIn K (.ref pRw) = some true)
    (rpRw : PySem.W.recIn K pRw "property" = some (.ref fRw :: reRw))
    (lRw : K.lookup fRw = some ⟨ocRw, odRw, .func (PySem.W.fnOf "rows" "Sort.rows" (defArgs sGetrows) (defBody sGetrows) (defScope sGetrows) .none kVRw dcRw pmRw anRw cdRw ctRw), slRw⟩)
    (cRw : PySem.W.codeIn K cdRw "Sort.rows" = true)
    (kRw : PySem.W.keepIn K (.ref fRw) = true)
    (fpOw : PySem.W.findIn K (.ref Cd) "own" = some (some (.ref pOw)))
    (gpOw : PySem.W.specialIn K (.ref pOw) "__get__" = some (some (.builtin "property.__get__")))
    (tpOw : PySem.W.takesIn K (.ref pOw) = some true)
    (rpOw : PySem.W.recIn K pOw "property" = some (.ref fOw :: reOw))
    (lOw : K.lookup fOw = some ⟨ocOw, odOw, .func (PySem.W.fnOf "own" "Sort.own" (defArgs sGetown) (defBody sGetown) (defScope sGetown) .none kVOw dcOw pmOw anOw cdOw ctOw), slOw⟩)
    (cOw : PySem.W.codeIn K cdOw "Sort.own" = true)
    (kOw : PySem.W.keepIn K (.ref fOw) = true)
    (fmIt : PySem.W.findIn K (.ref Cd) "__getitem__" = some (some (.ref fIt)))
    (lIt : K.lookup fIt = some ⟨ocIt, odIt, .func (PySem.W.fnOf "__getitem__" "Sort.__getitem__" (defArgs sItem) (defBody sItem) (defScope sItem) .none kVIt dcIt pmIt anIt cdIt ctIt), slIt⟩)
    (cIt : PySem.W.codeIn K cdIt "Sort.__getitem__" = true)
    (kIt : PySem.W.keepIn K (.ref fIt) = true)
    (fnIt : PySem.W.isFn K (.ref fIt) = true)
    (fmLn : PySem.W.findIn K (.ref Cd) "__len__" = some (some (.ref fLn)))
    (lLn : K.lookup fLn = some ⟨ocLn, odLn, .func (PySem.W.fnOf "__len__" "Sort.__len__" (defArgs sLen) (defBody sLen) (defScope sLen) .none kVLn dcLn pmLn anLn cdLn ctLn), slLn⟩)
    (cLn : PySem.W.codeIn K cdLn "Sort.__len__" = true)
    (kLn : PySem.W.keepIn K (.ref fLn) = true)
    (fnLn : PySem.W.isFn K (.ref fLn) = true)
    (fmIc : PySem.W.findIn K (.ref Cd) "__contains__" = some (some (.ref fIc)))
    (lIc : K.lookup fIc = some ⟨ocIc, odIc, .func (PySem.W.fnOf "__contains__" "Sort.__contains__" (defArgs sHas) (defBody sHas) (defScope sHas) .none kVIc dcIc pmIc anIc cdIc ctIc), slIc⟩)
    (cIc : PySem.W.codeIn K cdIc "Sort.__contains__" = true)
    (kIc : PySem.W.keepIn K (.ref fIc) = true)
    (fnIc : PySem.W.isFn K (.ref fIc) = true)
    (fmEq : PySem.W.findIn K (.ref Cd) "__eq__" = some (some (.ref fEq)))
    (lEq : K.lookup fEq = some ⟨ocEq, odEq, .func (PySem.W.fnOf "__eq__" "Sort.__eq__" (defArgs sEq) (defBody sEq) (defScope sEq) .none kVEq dcEq pmEq anEq cdEq ctEq), slEq⟩)
    (cEq : PySem.W.codeIn K cdEq "Sort.__eq__" = true)
    (kEq : PySem.W.keepIn K (.ref fEq) = true)
    (fnEq : PySem.W.isFn K (.ref fEq) = true)
    (fmCh : PySem.W.findIn K (.ref Cd) "changed" = some (some (.ref fCh)))
    (lCh : K.lookup fCh = some ⟨ocCh, odCh, .func (PySem.W.fnOf "changed" "Sort.changed" (defArgs sChg) (defBody sChg) (defScope sChg) .none kVCh dcCh pmCh anCh cdCh ctCh), slCh⟩)
    (cCh : PySem.W.codeIn K cdCh "Sort.changed" = true)
    (kCh : PySem.W.keepIn K (.ref fCh) = true)
    (fnCh : PySem.W.isFn K (.ref fCh) = true)
    (fiIt : PySem.W.fnIn K fIt = true)
    (fmIn : PySem.W.findIn K (.ref Cd) "__init__" = some (some (.ref fIn)))
    (lIn : K.lookup fIn = some ⟨ocIn, odIn, .func (PySem.W.fnOf "__init__" "Sort.__init__" (defArgs sSInit) (defBody sSInit) (defScope sSInit) .none (.ref Dk) dcIn pmIn anIn cdIn ctIn), slIn⟩)
    (cIn : PySem.W.codeIn K cdIn "Sort.__init__" = true)
    (kIn : PySem.W.keepIn K (.ref fIn) = true)
    (fnIn : PySem.W.isFn K (.ref fIn) = true)
    (nD : PySem.W.nsIn K Dk "own" = some (some (.ref aE)))
    (lE : K.lookup aE = some ⟨ocE, odE, daE, slE⟩)
    (iE : isTupV ocE daE [] = true)
    (hW : PySem.W.nsIn K mainGlobals "WORDS" = some (some (.ref aW)))
    (lW : K.lookup aW = some ⟨ocW, odW, daW, slW⟩)
    (iW : isTupV ocW daW (wordsL.map V.str) = true)
    (u0 : PySem.W.nsIn K mainGlobals "LETTERS" = some (some v0))
    (w0 : Value.isStrOf letters v0 = true)
    (u1 : PySem.W.nsIn K mainGlobals "LONGEST_NAME" = some (some v1))
    (w1 : Value.isInt 8 v1 = true)
    (u2 : PySem.W.nsIn K mainGlobals "MOST_GOALS" = some (some v2))
    (w2 : Value.isInt 4 v2 = true)
    (u3 : PySem.W.nsIn K mainGlobals "MOST_ROWS" = some (some v3))
    (w3 : Value.isInt 10 v3 = true)
    (u4 : PySem.W.nsIn K mainGlobals "MOST_NAMES" = some (some v4))
    (w4 : Value.isInt 2 v4 = true)
    (z_int : PySem.W.nsIn K mainGlobals "int" = some none)
    (z_abs : PySem.W.nsIn K mainGlobals "abs" = some none)
    (z_len : PySem.W.nsIn K mainGlobals "len" = some none)
    (z_str : PySem.W.nsIn K mainGlobals "str" = some none)
    (z_range : PySem.W.nsIn K mainGlobals "range" = some none)
    (z_isinstance : PySem.W.nsIn K mainGlobals "isinstance" = some none)
    (z_bool : PySem.W.nsIn K mainGlobals "bool" = some none)
    (z_repr : PySem.W.nsIn K mainGlobals "repr" = some none)
    (z_tuple : PySem.W.nsIn K mainGlobals "tuple" = some none)
    (z_all : PySem.W.nsIn K mainGlobals "all" = some none)
    (z_list : PySem.W.nsIn K mainGlobals "list" = some none)
    (z_set : PySem.W.nsIn K mainGlobals "set" = some none)
    : ∃ (fd : FuncData) (cs : List (Addr × Addr)) (sp : Sp), (∀ p ∈ cs, h.get? p.2 = some { cls := .none, data := .fields #[] } ∧ K.lookup p.2 = none ∧ PySem.W.CodeHd h p.1 p.2) ∧
        (∀ (H : Hp) (a : Addr) (ns : List Int), ns.length ≤ 63 → (∀ z ∈ ns, Builtin.Int.intBits z ≤ 1048576) → (∀ p ∈ cs, H p.2 = some (.tbl #[])) → SqL K H a (ns.map V.int) → sp [.ref a] H (fun v _ => v = .bl true) fun _ _ _ => False) ∧
        (∀ (s : Shared) (u : Value), BindsTo s fd ⟨[u], []⟩ [("script", u)]) ∧
        ∀ base : Heap, K.In base → base.Ns mainGlobals mg → (∀ p ∈ cs, LamX.TabB base mg p.1 p.2) → FnG l.prog w K mg base CX0 10 fa fd ["script"] sp := by
  have e := hfa.symm.trans (PySem.W.mg_of X G aLa)
  cases e
  obtain ⟨t0, rfl⟩ := Value.isStrOf_shape w0
  obtain ⟨t1, rfl⟩ := Value.isInt_shape w1
  obtain ⟨t2, rfl⟩ := Value.isInt_shape w2
  obtain ⟨t3, rfl⟩ := Value.isInt_shape w3
  obtain ⟨t4, rfl⟩ := Value.isInt_shape w4
  have FCo := fun_mk (st := sCount) lCo cCo kCo
  have FIx := fun_mk (st := sIndex) lIx cIx kIx
  have FNa := fun_mk (st := sName) lNa cNa kNa
  have FLi := fun_mk (st := sListing) lLi cLi kLi
  have FAn := fun_mk (st := sNames) lAn cAn kAn
  have FRr := fun_mk (st := sRow) lRr cRr kRr
  have FNe := fun_mk (st := sNeed) lNe cNe kNe
  have FAm := fun_mk (st := sAmong) lAm cAm kAm
  have FRp := fun_mk (st := sRepl) lRp cRp kRp
  have FBe := fun_mk (st := sBegin) lBe cBe kBe
  have FMi := fun_mk (st := sMixed) lMi cMi kMi
  have FDr := fun_mk (st := sDraw) lDr cDr kDr
  have FPk := fun_mk (st := sPick) lPk cPk kPk
  have FDw := fun_mk (st := sDRow) lDw cDw kDw
  have FWh := fun_mk (st := sWhich) lWh cWh kWh
  have FCa := fun_mk (st := sCaught) lCa cCa kCa
  have FBa := fun_mk (st := sBad) lBa cBa kBa
  have FWr := fun_mk (st := sWrong) lWr cWr kWr
  have FHI := fun_mk (st := sHInit) lHI cHI kHI
  have FIt := fun_mk (st := sItem) lIt cIt kIt
  have FLn := fun_mk (st := sLen) lLn cLn kLn
  have FIc := fun_mk (st := sHas) lIc cIc kIc
  have FEq := fun_mk (st := sEq) lEq cEq kEq
  have FCh := fun_mk (st := sChg) lCh cCh kCh
  have FNm := fun_mk (st := sGetname) lNm cNm kNm
  have FRw := fun_mk (st := sGetrows) lRw cRw kRw
  have FOw := fun_mk (st := sGetown) lOw cOw kOw
  have FRe := fun_mk (st := sRight) lRe cRe kRe
  have gCo := PySem.W.mg_of X G aCo
  have gIx := PySem.W.mg_of X G aIx
  have gNa := PySem.W.mg_of X G aNa
  have gLi := PySem.W.mg_of X G aLi
  have gAn := PySem.W.mg_of X G aAn
  have gRr := PySem.W.mg_of X G aRr
  have gNe := PySem.W.mg_of X G aNe
  have gAm := PySem.W.mg_of X G aAm
  have gRp := PySem.W.mg_of X G aRp
  have gBe := PySem.W.mg_of X G aBe
  have gMi := PySem.W.mg_of X G aMi
  have gDr := PySem.W.mg_of X G aDr
  have gPk := PySem.W.mg_of X G aPk
  have gDw := PySem.W.mg_of X G aDw
  have gWh := PySem.W.mg_of X G aWh
  have gCa := PySem.W.mg_of X G aCa
  have gBa := PySem.W.mg_of X G aBa
  have gWr := PySem.W.mg_of X G aWr
  have gRe := PySem.W.mg_of X G aRe
  have BCo := FCo.binds (ps := ["value"]) fun _ _ _ _ _ _ us hl => match us, hl with | [_], _ => rfl
  have BIx := FIx.binds (ps := ["value", "many"]) fun _ _ _ _ _ _ us hl => match us, hl with | [_, _], _ => rfl
  have BNa := FNa.binds (ps := ["value"]) fun _ _ _ _ _ _ us hl => match us, hl with | [_], _ => rfl
  have BLi := FLi.binds (ps := ["value"]) fun _ _ _ _ _ _ us hl => match us, hl with | [_], _ => rfl
  have BAn := FAn.binds (ps := ["value", "most"]) fun _ _ _ _ _ _ us hl => match us, hl with | [_, _], _ => rfl
  have BRr := FRr.binds (ps := ["value"]) fun _ _ _ _ _ _ us hl => match us, hl with | [_], _ => rfl
  have BNe := FNe.binds (ps := ["word"]) fun _ _ _ _ _ _ us hl => match us, hl with | [_], _ => rfl
  have BAm := FAm.binds (ps := ["value", "many"]) fun _ _ _ _ _ _ us hl => match us, hl with | [_, _], _ => rfl
  have BRp := FRp.binds (ps := ["items", "at", "item"]) fun _ _ _ _ _ _ us hl => match us, hl with | [_, _, _], _ => rfl
  have BBe := FBe.binds (ps := ["script"]) fun _ _ _ _ _ _ us hl => match us, hl with | [_], _ => rfl
  have BMi := FMi.binds (ps := ["pool", "many"]) fun _ _ _ _ _ _ us hl => match us, hl with | [_, _], _ => rfl
  have BDr := FDr.binds (ps := ["pool", "many"]) fun _ _ _ _ _ _ us hl => match us, hl with | [_, _], _ => rfl
  have BPk := FPk.binds (ps := ["pool", "some"]) fun _ _ _ _ _ _ us hl => match us, hl with | [_, _], _ => rfl
  have BDw := FDw.binds (ps := ["pool", "names", "bolts", "many"]) fun _ _ _ _ _ _ us hl => match us, hl with | [_, _, _, _], _ => rfl
  have BWh := FWh.binds (ps := ["error"]) fun _ _ _ _ _ _ us hl => match us, hl with | [_], _ => rfl
  have BCa := FCa.binds (ps := ["call"]) fun _ _ _ _ _ _ us hl => match us, hl with | [_], _ => rfl
  have BBa := FBa.binds (ps := ["pool"]) fun _ _ _ _ _ _ us hl => match us, hl with | [_], _ => rfl
  have BWr := FWr.binds (ps := ["pool", "many"]) fun _ _ _ _ _ _ us hl => match us, hl with | [_, _], _ => rfl
  have BHI := FHI.binds (ps := ["self", "value"]) fun _ _ _ _ _ _ us hl => match us, hl with | [_, _], _ => rfl
  have BIt := FIt.binds (ps := ["self", "at"]) fun _ _ _ _ _ _ us hl => match us, hl with | [_, _], _ => rfl
  have BLn := FLn.binds (ps := ["self"]) fun _ _ _ _ _ _ us hl => match us, hl with | [_], _ => rfl
  have BIc := FIc.binds (ps := ["self", "x"]) fun _ _ _ _ _ _ us hl => match us, hl with | [_, _], _ => rfl
  have BEq := FEq.binds (ps := ["self", "other"]) fun _ _ _ _ _ _ us hl => match us, hl with | [_, _], _ => rfl
  have BCh := FCh.binds (ps := ["self", "at", "row"]) fun _ _ _ _ _ _ us hl => match us, hl with | [_, _, _], _ => rfl
  have BNm := FNm.binds (ps := ["self"]) fun _ _ _ _ _ _ us hl => match us, hl with | [_], _ => rfl
  have BRw := FRw.binds (ps := ["self"]) fun _ _ _ _ _ _ us hl => match us, hl with | [_], _ => rfl
  have BOw := FOw.binds (ps := ["self"]) fun _ _ _ _ _ _ us hl => match us, hl with | [_], _ => rfl
  have BRe := FRe.binds (ps := ["pool", "name", "rows", "mine"]) fun _ _ _ _ _ _ us hl => match us, hl with | [_, _, _, _], _ => rfl
  obtain ⟨cl, tyI, mk1, mk2⟩ := clsB_ok bCl
  have no := noB_ok nCl
  have err := errTab_ok eT
  have n_1 := no "_name" (by simp)
  have n_2 := no "_rows" (by simp)
  have n_3 := no "_own" (by simp)
  have SC : SCls K Cd := ⟨cl, n_1, n_2, n_3⟩
  have gSo := PySem.W.mg_of X G hC
  have SI : SIs K mg Cd := ⟨gSo, tyI, kS, kT⟩
  have T : HTxt K mg cH [C0, C1, C2, C3, C4, C5, C6, C7, C8, C9, C10, C11, C12] := ⟨PySem.W.mg_none_of X G z_isinstance, PySem.W.mg_none_of X G z_repr, PySem.W.mg_of X G hH, PySem.W.mg_of X G n0, PySem.W.mg_of X G n1, PySem.W.mg_of X G n2, PySem.W.mg_of X G n3, PySem.W.mg_of X G n4, PySem.W.mg_of X G n5, PySem.W.mg_of X G n6, PySem.W.mg_of X G n7, PySem.W.mg_of X G n8, PySem.W.mg_of X G n9, PySem.W.mg_of X G n10, PySem.W.mg_of X G n11, PySem.W.mg_of X G n12,
    fun i hi => (exB_ok (err i hi).1).2.2, fun i hi => (exB_ok (err i (by omega)).1).1, fun i hi => (err i (by omega)).2.2.2.2 hi, fun i j hi hj => (err i hi).2.1 j hj, fun i hi => (err i hi).2.2.1, fun i hi => (err i hi).2.2.2.1⟩
  have PT : PTxt mg := ⟨PySem.W.mg_none_of X G z_int, PySem.W.mg_none_of X G z_abs, PySem.W.mg_none_of X G z_len, PySem.W.mg_none_of X G z_str, PySem.W.mg_none_of X G z_range⟩
  have MT : MTxt K mg := ⟨PySem.W.mg_none_of X G z_isinstance, PySem.W.mg_none_of X G z_int, PySem.W.mg_none_of X G z_bool, PySem.W.mg_none_of X G z_str, PySem.W.mg_none_of X G z_tuple, PySem.W.mg_none_of X G z_len, PySem.W.mg_none_of X G z_all, ⟨_, PySem.W.mg_of X G u0⟩, ⟨_, PySem.W.mg_of X G u1⟩, ⟨_, PySem.W.mg_of X G u2⟩⟩
  have TL : LTxt mg := ⟨PySem.W.mg_none_of X G z_list, PySem.W.mg_none_of X G z_set⟩
  have TX : RTxt mg := ⟨PySem.W.mg_none_of X G z_repr⟩
  have E0' : ErrC K mg "InvalidNumber" C0 fHI := errC_mk (PySem.W.mg_of X G n0) e0 m0 r0
  have E1' : ErrC K mg "InvalidName" C1 fHI := errC_mk (PySem.W.mg_of X G n1) e1 m1 r1
  have E2' : ErrC K mg "InvalidRow" C2 fHI := errC_mk (PySem.W.mg_of X G n2) e2 m2 r2
  have TI : ITxt K mg fHI C1 C2 C0 := ⟨⟨_, PySem.W.mg_of X G u3⟩, ⟨_, PySem.W.mg_of X G u4⟩, E1', E2', E0'⟩
  have FIn : FunD K "__init__" "Sort.__init__" (defArgs sSInit) (defBody sSInit) (defScope sSInit) [] [("own", .ref aE)] fIn _ :=
    ⟨⟨_, _, _, _, _, _, _, _, _, _, rfl, lIn, cIn, .inl ⟨rfl, rfl⟩, .inr ⟨Dk, rfl, fun q hq => by
      rw [List.mem_singleton.mp hq]
      exact ⟨_, nD, rfl⟩⟩⟩, kIn⟩
  obtain ⟨kb, ds1, d1, b1⟩ := so_binds FIn
  refine ⟨PySem.W.fnOf "law" "law" (defArgs sLaw) (defBody sLaw) (defScope sLaw) .none kVLa dcLa pmLa anLa (.ref cCLa) ctLa, [(cCRe, PTRe), (cCLa, PTLa)], spLaw K PTRe PTLa, fun p hp => ?_, fun H a ns hl _ hc hS => ?_, fun s v => .of_eq rfl, fun base _ _ hTB => ?_⟩
  · rcases List.mem_cons.mp hp with rfl | hp
    · exact ⟨tTRe, tNRe, PySem.W.codeHd_of_K X tHRe⟩
    · rw [List.mem_singleton.mp hp]
      exact ⟨tTLa, tNLa, PySem.W.codeHd_of_K X tHLa⟩
  · exact ⟨a, ns, rfl, hS, hl, hc _ (List.mem_cons_self ..), hc _ (List.mem_cons_of_mem _ (List.mem_singleton.mpr rfl)), fun _ => rfl⟩
  · have GDr : FnOk l.prog w K mg base CX0 2 fDr _ ["pool", "many"] spDraw := ok_draw FDr PT FMi BMi gMi
    have GRr : FnOk l.prog w K mg base CX0 2 fRr _ ["value"] spRow := ok_row FRr MT (PySem.W.mg_of X G hW) (fun H => sqT_written lW iW) FCo BCo gCo FNa BNa gNa FNe BNe gNe
    have GAm : FnOk l.prog w K mg base CX0 3 fAm _ ["value", "many"] spAmong := ok_among FAm MT FRr BRr gRr GRr
    have GAn : FnOk l.prog w K mg base CX0 2 fAn _ ["value", "most"] (spNames K) := ok_names FAn MT TL FLi BLi gLi FNa BNa gNa
    have GIn : FnOk l.prog w K mg base (L2.CX l.prog w) 4 fIn _ ["self", "name", "rows", "own"] (spSort K Cd C1 C2) := ok_sinit FIn MT TL TI cl n_1 n_2 n_3 FHI BHI FLi BLi gLi FNa BNa gNa FAm BAm gAm GAm FAn BAn gAn GAn
    have MH : Mk K Cd fIn := ⟨mk1, fmIn, fnIn, mk2⟩
    have GIx : FnOk l.prog w K mg base CX0 2 fIx _ ["value", "many"] spIndex := ok_index FIx MT FCo BCo gCo
    have GPk : FnOk l.prog w K mg base CX0 3 fPk _ ["pool", "some"] spPick := ok_pick FPk (PySem.W.mg_none_of X G z_len) FDr BDr gDr GDr
    have GWr : FnOk l.prog w K mg base CX0 3 fWr _ ["pool", "many"] spWrong := ok_wrong FWr FDr BDr gDr GDr
    have GRe := ok_right (P := l.prog) (w := w) (base := base) (cs := [C0, C1, C2, C3, C4, C5, C6, C7, C8, C9, C10, C11, C12]) (C := Cd) (PT1 := PTLa) lRe cRe T TX PT MT SC gSo (hTB (cCRe, PTRe) (List.mem_cons_self ..)) neT FDr BDr gDr GDr FWr BWr gWr GWr MH GIn kb
      ⟨fpNm, gpNm, tpNm, _, rpNm⟩ (ok_getname FNm) BNm ⟨fpRw, gpRw, tpRw, _, rpRw⟩ (ok_getrows FRw) BRw ⟨fpOw, gpOw, tpOw, _, rpOw⟩ (ok_getown FOw) BOw
      fmIt fiIt fnIt (ok_item FIt MT TI SC FHI BHI FIx BIx gIx GIx) BIt fmIc fnIc (ok_has FIc SC FRr BRr gRr GRr) BIc fmLn fnLn (ok_len FLn MT SC) BLn (ok_eq FEq MT SC SI) ⟨fmEq, fnEq, q1, q2, q3⟩ ⟨qn, _, _, _, _, _, _, _, _, _, _, _, _, _, _, _, _, lCl⟩ BEq
      ⟨fmCh, fnCh, kCh⟩ (ok_chg FCh MT TI SC gSo FHI BHI FIx BIx gIx GIx FRp BRp gRp MH GIn kb) BCh FWh BWh gWh gCa kCa lCa cCa BCa
    exact ok_law (cs := [C0, C1, C2, C3, C4, C5, C6, C7, C8, C9, C10, C11, C12]) (C := Cd) lLa cLa T TX PT gSo (hTB (cCLa, PTLa) (List.mem_cons_of_mem _ (List.mem_singleton.mpr rfl))) neT FBe BBe gBe (ok_begin FBe PT) FDr BDr gDr GDr FDw BDw gDw (ok_drow FDw FDr BDr gDr GDr FPk BPk gPk GPk) kRe BRe gRe GRe
      FBa BBa gBa (ok_bad FBa FDr BDr gDr GDr) FWr BWr gWr GWr MH GIn kb b1 d1 (fun H => sqT_written lE iE) FWh BWh gWh gCa kCa lCa cCa BCa
end Toy

open PySem PySem.W PyProof.Rows in
set_option maxRecDepth 100000 in
set_option maxHeartbeats 0 in
theorem PySem.Challenge.cw_handlesagain_k02_sorts_holds : PySem.Challenge.rw_handlesagain_k02_sorts.Holds := by
  w_on; o_law; k_head; (case hw => w_witness2)
  k_fill
  refine Toy.walkGT (l := PySem.Challenge.rw_handlesagain_k02_sorts) (k := 10) (CX := fun _ => L2.CX0) rfl rfl ⟨rfl, by decide, by decide⟩ (fun w h Y => PySem.W.km_in_of Y) (fun _ _ _ _ _ z => z) ?F
  case F =>
    intro w mg fa h Y KX G hmg
    refine' Toy.all_mk KX G hmg ?aCo ?lCo ?cCo ?kCo ?aIx ?lIx ?cIx ?kIx ?aNa ?lNa ?cNa ?kNa ?aLi ?lLi ?cLi ?kLi ?aAn ?lAn ?cAn ?kAn ?aRr ?lRr ?cRr ?kRr ?aNe ?lNe ?cNe ?kNe ?aAm ?lAm ?cAm ?kAm ?aRp ?lRp ?cRp ?kRp ?aBe ?lBe ?cBe ?kBe ?aMi ?lMi ?cMi ?kMi ?aDr ?lDr ?cDr ?kDr ?aPk ?lPk ?cPk ?kPk ?aDw ?lDw ?cDw ?kDw ?aWh ?lWh ?cWh ?kWh ?aCa ?lCa ?cCa ?kCa ?aBa ?lBa ?cBa ?kBa ?aWr ?lWr ?cWr ?kWr ?aRe ?lRe ?cRe ?kRe ?tCRe ?tPRe ?tNRe ?tHRe ?tTRe ?aLa ?lLa ?cLa ?kLa ?tCLa ?tPLa ?tNLa ?tHLa ?tTLa ?neT ?hH ?n0 ?n1 ?n2 ?n3 ?n4 ?n5 ?n6 ?n7 ?n8 ?n9 ?n10 ?n11 ?n12 ?iHI ?lHI ?cHI ?kHI ?eT ?e0 ?m0 ?r0 ?e1 ?m1 ?r1 ?e2 ?m2 ?r2 ?hC ?bCl ?nCl ?lCl ?q1 ?q2 ?q3 ?qn ?kS ?kT ?fpNm ?gpNm ?tpNm ?rpNm ?lNm ?cNm ?kNm ?fpRw ?gpRw ?tpRw ?rpRw ?lRw ?cRw ?kRw ?fpOw ?gpOw ?tpOw ?rpOw ?lOw ?cOw ?kOw ?fmIt ?lIt ?cIt ?kIt ?fnIt ?fmLn ?lLn ?cLn ?kLn ?fnLn ?fmIc ?lIc ?cIc ?kIc ?fnIc ?fmEq ?lEq ?cEq ?kEq ?fnEq ?fmCh ?lCh ?cCh ?kCh ?fnCh ?fiIt ?fmIn ?lIn ?cIn ?kIn ?fnIn ?nD ?lE ?iE ?hW ?lW ?iW ?u0 ?w0 ?u1 ?w1 ?u2 ?w2 ?u3 ?w3 ?u4 ?w4 ?z_int ?z_abs ?z_len ?z_str ?z_range ?z_isinstance ?z_bool ?z_repr ?z_tuple ?z_all ?z_list ?z_set
    (case aCo => k_is)
    (case lCo => k_is)
    (case cCo => k_is)
    (case kCo => k_is)
    (case aIx => k_is)
    (case lIx => k_is)
    (case cIx => k_is)
    (case kIx => k_is)
    (case aNa => k_is)
    (case lNa => k_is)
    (case cNa => k_is)
    (case kNa => k_is)
    (case aLi => k_is)
    (case lLi => k_is)
    (case cLi => k_is)
    (case kLi => k_is)
    (case aAn => k_is)
    (case lAn => k_is)
    (case cAn => k_is)
    (case kAn => k_is)
    (case aRr => k_is)
    (case lRr => k_is)
    (case cRr => k_is)
    (case kRr => k_is)
    (case aNe => k_is)
    (case lNe => k_is)
    (case cNe => k_is)
    (case kNe => k_is)
    (case aAm => k_is)
    (case lAm => k_is)
    (case cAm => k_is)
    (case kAm => k_is)
    (case aRp => k_is)
    (case lRp => k_is)
    (case cRp => k_is)
    (case kRp => k_is)
    (case aBe => k_is)
    (case lBe => k_is)
    (case cBe => k_is)
    (case kBe => k_is)
    (case aMi => k_is)
    (case lMi => k_is)
    (case cMi => k_is)
    (case kMi => k_is)
    (case aDr => k_is)
    (case lDr => k_is)
    (case cDr => k_is)
    (case kDr => k_is)
    (case aPk => k_is)
    (case lPk => k_is)
    (case cPk => k_is)
    (case kPk => k_is)
    (case aDw => k_is)
    (case lDw => k_is)
    (case cDw => k_is)
    (case kDw => k_is)
    (case aWh => k_is)
    (case lWh => k_is)
    (case cWh => k_is)
    (case kWh => k_is)
    (case aCa => k_is)
    (case lCa => k_is)
    (case cCa => k_is)
    (case kCa => k_is)
    (case aBa => k_is)
    (case lBa => k_is)
    (case cBa => k_is)
    (case kBa => k_is)
    (case aWr => k_is)
    (case lWr => k_is)
    (case cWr => k_is)
    (case kWr => k_is)
    (case aRe => k_is)
    (case lRe => k_is)
    (case cRe => k_is)
    (case kRe => k_is)
    (case tCRe => k_is)
    (case tPRe => exact rfl)
    (case tNRe => kernel_rfl)
    (case tHRe => kernel_rfl)
    (case tTRe => exact PySem.W.km_tabs_of Y _ (by decide))
    (case aLa => k_is)
    (case lLa => k_is)
    (case cLa => k_is)
    (case kLa => k_is)
    (case tCLa => k_is)
    (case tPLa => exact rfl)
    (case tNLa => kernel_rfl)
    (case tHLa => kernel_rfl)
    (case tTLa => exact PySem.W.km_tabs_of Y _ (by decide))
    (case neT => decide)
    (case hH => k_is)
    (case n0 => k_is)
    (case n1 => k_is)
    (case n2 => k_is)
    (case n3 => k_is)
    (case n4 => k_is)
    (case n5 => k_is)
    (case n6 => k_is)
    (case n7 => k_is)
    (case n8 => k_is)
    (case n9 => k_is)
    (case n10 => k_is)
    (case n11 => k_is)
    (case n12 => k_is)
    (case iHI => k_is)
    (case lHI => k_is)
    (case cHI => k_is)
    (case kHI => k_is)
    (case eT => kernel_rfl)
    (case e0 => k_is)
    (case m0 => decide +kernel)
    (case r0 => kernel_rfl)
    (case e1 => k_is)
    (case m1 => decide +kernel)
    (case r1 => kernel_rfl)
    (case e2 => k_is)
    (case m2 => decide +kernel)
    (case r2 => kernel_rfl)
    (case hC => k_is)
    (case bCl => kernel_rfl)
    (case nCl => kernel_rfl)
    (case lCl => k_is)
    (case q1 => k_is)
    (case q2 => k_is)
    (case q3 => k_is)
    (case qn => k_is)
    (case kS => kernel_rfl)
    (case kT => kernel_rfl)
    (case fpNm => k_is)
    (case gpNm => k_is)
    (case tpNm => k_is)
    (case rpNm => k_is)
    (case lNm => k_is)
    (case cNm => k_is)
    (case kNm => k_is)
    (case fpRw => k_is)
    (case gpRw => k_is)
    (case tpRw => k_is)
    (case rpRw => k_is)
    (case lRw => k_is)
    (case cRw => k_is)
    (case kRw => k_is)
    (case fpOw => k_is)
    (case gpOw => k_is)
    (case tpOw => k_is)
    (case rpOw => k_is)
    (case lOw => k_is)
    (case cOw => k_is)
    (case kOw => k_is)
    (case fmIt => k_is)
    (case lIt => k_is)
    (case cIt => k_is)
    (case kIt => k_is)
    (case fnIt => k_is)
    (case fmLn => k_is)
    (case lLn => k_is)
    (case cLn => k_is)
    (case kLn => k_is)
    (case fnLn => k_is)
    (case fmIc => k_is)
    (case lIc => k_is)
    (case cIc => k_is)
    (case kIc => k_is)
    (case fnIc => k_is)
    (case fmEq => k_is)
    (case lEq => k_is)
    (case cEq => k_is)
    (case kEq => k_is)
    (case fnEq => k_is)
    (case fmCh => k_is)
    (case lCh => k_is)
    (case cCh => k_is)
    (case kCh => k_is)
    (case fnCh => k_is)
    (case fiIt => k_is)
    (case fmIn => k_is)
    (case lIn => k_is)
    (case cIn => k_is)
    (case kIn => k_is)
    (case fnIn => k_is)
    (case nD => k_is)
    (case lE => k_is)
    (case iE => kernel_rfl)
    (case hW => k_is)
    (case lW => k_is)
    (case iW => kernel_rfl)
    (case u0 => k_is)
    (case w0 => decide +kernel)
    (case u1 => k_is)
    (case w1 => decide +kernel)
    (case u2 => k_is)
    (case w2 => decide +kernel)
    (case u3 => k_is)
    (case w3 => decide +kernel)
    (case u4 => k_is)
    (case w4 => decide +kernel)
    (case z_int => k_is)
    (case z_abs => k_is)
    (case z_len => k_is)
    (case z_str => k_is)
    (case z_range => k_is)
    (case z_isinstance => k_is)
    (case z_bool => k_is)
    (case z_repr => k_is)
    (case z_tuple => k_is)
    (case z_all => k_is)
    (case z_list => k_is)
    (case z_set => k_is)
