import PyProof.Rows.All
import Wide.All
import OpenK.AllK
import Wide.FinOn
import HandS.ForMost
import HandS.Wide
import HandS.IsInst
import HandS.EndBits
import HandS.ExcInit
import HandS.ExcIs
import HandS.ExcField
import HandS.ExcValue
import PyProof.ExcBaseAll.OverflowError
import PyProof.ExcBaseAll.LookupError
import PyProof.ExcBaseAll.ValueError
import HandS.TupAny
import HandS.Walk
import HandS.TupMul
import PyProof.ReprRoads
import HandS.Lambda
import HandS.EndTab
import HandS.HotCalls
import HandS.TryMany
import PyProof.ReprLen
import HandS.MakeKwOnly
import HandS.Property
import HandS.FStr
import HandS.SlotsOwn
import HandS.WordsExc
import KE.KNestM
import PySem.Challenge.RW_handlesagain_k07_tables_refused
set_option Elab.async false
set_option maxRecDepth 100000
set_option maxHeartbeats 2000000
namespace PySem
namespace ExK
open PySem.W PySem.Calls PyProof.Rows PySem.HandSPX
open Builtin Builtin.ObjectAttr
/-! ### an own exception class called with keywords -/
section
variable {M : Model} {A : Around} {E : Value → Shared → Prop} {h : Heap} {g : Array GenState} {d : Drawn} {t : Nat} {os : OsState}
  {nm q : Str} {C N : Addr} {bs bm bmB : List Value} {hdct : Bool} {sn : List Str} {sub : List Value} {ab : Bool} {col : Option Bool} {dd : Option Addr}
  {k0 k1 k2 k3 k5 : Option Value} {B newId initId : String} {xs : List Value} {kw : List (Str × Value)}
/-- bm has the built-in classes of bmB, and no other -/
def SameB (bm bmB : List Value) : Prop := ∀ X : String, bm.contains (.type X) = bmB.contains (.type X)
/-- the class at C -/
def ClsAt (h : Heap) (nm q : Str) (C N : Addr) (bs bm : List Value) (hdct : Bool) (sn : List Str) (sub : List Value) (ab : Bool) (col : Option Bool) (dd : Option Addr) (k0 k1 k2 k3 k5 : Option Value) (newId : String) : Prop :=
  h.get? C = some (excClassObj nm q C N bs bm hdct sn sub ab col dd k0 k1 k2 k3 k5 newId)
theorem sub_of (hT : SameB bm bmB) (X : String) : (Value.ref C :: bm).contains (.type X) = bmB.contains (.type X) := by
  rw [List.contains_cons, hT X]
  rfl
theorem ck_new (F : ExcBaseFacts B newId initId bmB) (hT : SameB bm bmB) {Q : Unit → Shared → Prop} (hC : ClsAt h nm q C N bs bm hdct sn sub ab col dd k0 k1 k2 k3 k5 newId)
    (hq : Q () ⟨h, g, d, t, os⟩) : wpAny M A (checkBuiltinCall newId ⟨.ref C :: xs, kw⟩) Q E ⟨h, g, d, t, os⟩ := by
  have e1 : (Value.ref C :: bm).contains (.type B) = true := (sub_of hT B).trans F.hasB
  have z9 := F.noStar
  unfold ClsAt at hC
  simp only [checkBuiltinCall, F.newKind, F.newSplit, F.newRow]
  repeat (first
    | refine wpAny_loadPart_at hC ?_
    | (refine wpAny_isSubtype_exc hC ?_
       rw [e1])
    | refine wpAny_staticBase_exc hC ?_
    | refine wpAny_madeBy_exc hC ?_
    | simp only [bne_self_eq_false, Bool.false_eq_true, if_false]
    | wp_step)
  exact hq
end
section
variable {prog : Program} {w : World} {A : Around} {E : Value → Shared → Prop} {R : Result → Shared → Prop} {h : Heap} {g : Array GenState} {d : Drawn} {t : Nat} {os : OsState}
  {nm q : Str} {C N : Addr} {bs bm bmB : List Value} {hdct : Bool} {sn : List Str} {sub : List Value} {ab : Bool} {col : Option Bool} {dd : Option Addr}
  {k0 k1 k2 k3 k5 : Option Value} {B newId initId : String} {xs : List Value} {kw : List (Str × Value)}
theorem nw_kw (F : ExcBaseFacts B newId initId bmB) (hT : SameB bm bmB) (hC : ClsAt h nm q C N bs bm hdct sn sub ab col dd k0 k1 k2 k3 k5 newId)
    (hq : R (.ok (.ret (.ref (h.objs.size + 1)))) ⟨(h.push (W.kdv_tup xs)).push (excO C h.objs.size), g, d, t, os⟩) (hl : xs.length ≤ sizeLine) :
    codeAny (model prog w) A (.builtin newId ⟨.ref C :: xs, kw⟩) R ⟨h, g, d, t, os⟩ := by
  have z0 := F.ends
  have z1 : (Value.ref C :: bm).contains (.type B) = true := (sub_of hT B).trans F.hasB
  have z2 : (Value.ref C :: bm).contains (.type "AttributeError") = false := (sub_of hT _).trans F.noAttr
  have z3 : (Value.ref C :: bm).contains (.type "NameError") = false := (sub_of hT _).trans F.noName
  unfold ClsAt at hC
  apply codeAny_builtinAt F.entry
  unfold Builtin.«BaseException.__new__»
  apply wpAt_bind
  show wpAt _ _ _ (stack >>= _) _ _ _
  refine wpAt_bind (wpAt_stack fun p below => wpAt_of_wpAny ?_)
  wp_walk
  apply wpAt_of_wpAny
  rw [F.owner]
  repeat (first
    | with_reducible refine wpAny_madeHere_exc F.canon hC ?_
    | with_reducible refine wpAny_loadPart_at hC ?_
    | (with_reducible refine wpAny_isSubtype_exc hC ?_
       first | rw [z1] | rw [z2] | rw [z3])
    | wp_step)
  show R _ _
  rw [Heap.size_push]
  exact hq
theorem ck_call {M : Model} {Q : Unit → Shared → Prop} (hC : ClsAt h nm q C N bs bm hdct sn sub ab col dd k0 k1 k2 k3 k5 newId) (hq : Q () ⟨h, g, d, t, os⟩) :
    wpAny M A (checkBuiltinCall "type.__call__" ⟨.ref C :: xs, kw⟩) Q E ⟨h, g, d, t, os⟩ := by
  have z0 := tc_sub
  unfold ClsAt at hC
  have z1 : (⟨h, g, d, t, os⟩ : Shared).TypeIs (.ref C) "type" := ⟨_, hC, rfl⟩
  simp only [checkBuiltinCall, tc_kind, tc_split]
  repeat (any_goals (first
    | assumption
    | with_reducible refine wpAny_loadPart_at hC ?_
    | with_reducible refine wpAny_onRaise ?_
    | with_reducible refine wpAny_map ?_
    | wp_step))
/-- what __init__ hands back is None -/
def BackI (a : Addr) (E : Value → Shared → Prop) (Q : Fin → Shared → Prop) : Result → Shared → Prop := fun r s' => match r with
  | .ok (.ret v) => v = .none ∧ Q (.done (.ret (.ref a))) s'
  | .ok _ => False
  | .error e => E e s'
theorem tc_kw {fI : Addr} {Q : Fin → Shared → Prop} (F : ExcBaseFacts B newId initId bmB) (hT : SameB bm bmB) (hC : ClsAt h nm q C N bs bm hdct sn sub ab col dd k0 k1 k2 k3 k5 newId)
    (hi : W.Looks (model prog w) h (typeLookup (.ref C) "__init__") (some (.ref fI))) (hb : ∀ v, W.Looks (model prog w) h (bindSpecial (.ref fI) v) (.ref fI, [v])) (hl : xs.length ≤ sizeLine)
    (hq : codeAny (model prog w) A (.call (.ref fI) ⟨.ref (h.objs.size + 1) :: xs, kw⟩) (BackI (h.objs.size + 1) E Q) ⟨(h.push (W.kdv_tup xs)).push (excO C h.objs.size), g, d, t, os⟩) :
    wpAny (model prog w) A (Builtin.«type.__call__» ⟨.ref C :: xs, kw⟩) Q E ⟨h, g, d, t, os⟩ := by
  have hC0 := hC
  unfold ClsAt at hC
  repeat (first
    | with_reducible refine wpAny_loadPart_at hC ?_
    | with_reducible refine wpAny_madeBy_exc hC ?_
    | wp_step)
  apply codeAny_call_builtin_code (Code.quiet_builtin _ F.quiet) (ck_new F hT hC0 _)
  refine nw_kw F hT hC0 ?_ hl
  show wpAny _ _ _ _ _ _
  have kp : ∀ b o, h.get? b = some o → ((h.push (W.kdv_tup xs)).push (excO C h.objs.size)).get? b = some o := fun b o e =>
    Heap.get?_push_of_some _ (Heap.get?_push_of_some _ e)
  have y1 := kp _ _ hC
  have y2 : ((h.push (W.kdv_tup xs)).push (excO C h.objs.size)).get? (h.objs.size + 1) = some (excO C h.objs.size) := by
    heap_get
  have y3 : (Value.ref C :: bm).contains (.ref C) = true := by
    simp
  have y4 := hi.keeps kp
  have y5 := (hb (.ref (h.objs.size + 1))).keeps kp
  unfold isInstance
  repeat (first
    | with_reducible refine wpAny_loadPart_at y2 ?_
    | (with_reducible refine wpAny_isSubtype_exc y1 ?_
       rw [y3])
    | wp_step)
  show wpAny _ _ (typeLookup (.ref C) _) _ _ _
  refine y4.at ?_
  refine wpAny_holding (wpAny_bind (y5.at ?_))
  refine wpAny_bind (wpAny_call (codeAny_mono hq fun r s' z => ?_))
  cases r with
  | error e => exact z
  | ok fl =>
    cases fl with
    | ret v =>
      obtain ⟨rfl, z⟩ := z
      first
        | exact wpAny_pure (wpAny_pure z)
        | (wp_walk
           exact z)
    | next => exact z.elim
    | brk => exact z.elim
    | cont => exact z.elim
theorem own_kw {fI : Addr} (F : ExcBaseFacts B newId initId bmB) (hT : SameB bm bmB) (hC : ClsAt h nm q C N bs bm hdct sn sub ab col dd k0 k1 k2 k3 k5 newId)
    (hi : W.Looks (model prog w) h (typeLookup (.ref C) "__init__") (some (.ref fI))) (hb : ∀ v, W.Looks (model prog w) h (bindSpecial (.ref fI) v) (.ref fI, [v])) (hl : xs.length ≤ sizeLine)
    (hq : codeAny (model prog w) (A.under (.builtin "type.__call__" ⟨.ref C :: xs, kw⟩)) (.call (.ref fI) ⟨.ref (h.objs.size + 1) :: xs, kw⟩) (W.InitBack (h.objs.size + 1) R)
      ⟨(h.push (W.kdv_tup xs)).push (excO C h.objs.size), g, d, t, os⟩) :
    codeAny (model prog w) A (.call (.ref C) ⟨xs, kw⟩) R ⟨h, g, d, t, os⟩ := by
  have x1 := tc_lookup
  have x2 := tc_bind (.ref C)
  have hC0 := hC
  unfold ClsAt at hC
  have x3 : (⟨h, g, d, t, os⟩ : Shared).TypeIs (.ref C) "type" := ⟨_, hC, rfl⟩
  apply codeAny_of_tree
  show wpAny _ _ (callAny (.ref C) _) _ _ _
  repeat (any_goals (first
    | assumption
    | with_reducible refine wpAny_loadPart_at hC ?_
    | wp_step))
  refine ⟨rfl, ?_⟩
  refine codeAny_call_builtin_at (Code.quiet_builtin _ (by decide +kernel)) entry_typeCall (ck_call hC0 (tc_kw F hT hC0 hi hb hl ?_))
  refine codeAny_mono hq fun r s' z => ?_
  rcases r with e | (v | _ | _ | _) <;> exact z
end
/-! ### self.f = v on such an exception -/
def MroOk (l : List Value) : Prop := (∀ v, refuseLoop v "__setattr__" l = pure ()) ∧ l.isEmpty = false ∧ l.contains (.type "object") = true
section
variable {prog : Program} {w : World} {A : Around} {E : Value → Shared → Prop} {R : Result → Shared → Prop} {hp : Heap} {g : Array GenState} {d : Drawn} {t : Nat} {os : OsState}
theorem st_gen {K : W.Frag} {f : Str} {tk : Tok} {v : Value} {x C : Addr} {fv : Array Value} {cd : ClassData} (X : K.In hp) (hx : hp.get? x = some { cls := .ref C, data := .fields fv })
    (hcd : W.clsIn K C = some cd) (hm : MroOk cd.mro) (hh : cd.hasDict = true) (ha : W.findIn K (.ref C) f = some none)
    (hq : ∀ h' tk' dx, (∀ b o, b ≠ x → hp.get? b = some o → h'.get? b = some o) → hp.objs.size ≤ dx → dx ≠ x → h'.get? x = some { cls := .ref C, dict := some dx, data := .fields fv } →
      h'.Ns1 dx (fun y => if y = f then some v else none) → R (.ok (.ret .none)) ⟨h', g, d, tk', os⟩) :
    codeAny (model prog w) A (.call (.builtin "object.__setattr__") ⟨[.ref x, .str f tk, v], []⟩) R ⟨hp, g, d, t, os⟩ := by
  obtain ⟨m1, m2, m3⟩ := hm
  have J : W.InstAt hp x { cls := .ref C, data := .fields fv } C none := ⟨hx, rfl, rfl, trivial⟩
  have S := F.store_object
  have nx : x ≠ hp.objs.size := Nat.ne_of_lt (Heap.lt_size hx)
  have e0 : W.mroIn K C (.type "object") = some true := by
    unfold W.mroIn
    rw [hcd, Option.bind_some, if_neg (by rw [m2]; decide), m3]
  have e1 : W.Looks (model prog w) hp (isInstance (.ref x) (.type "object")) true :=
    J.type.andThen (W.looks_mroIn X e0)
  have e2 : W.Looks (model prog w) hp (mroOf (.ref C)) cd.mro := (W.looks_clsIn X hcd).andThen .now
  have e3 : W.Looks (model prog w) hp (storeTaker? none) none := .now
  have e4 : W.Looks (model prog w) hp (classData C) cd := W.looks_clsIn X hcd
  refine codeAny_call_builtin S.slot.plain S.entry ?_
  refine @W.check_slot (model prog w) _ _ ⟨hp, g, d, t, os⟩ "object.__setattr__" "object" "__setattr__" (.ref x) [.str f tk, v] [] _ S.kind S.split e1 (S.args (.ref x) (.str f tk) v) ?_
  rw [W.osa_eq, refuse_eq]
  refine wpAny_bind (wpAny_bind (J.type.at (wpAny_bind (e2.at ?_))))
  rw [m1]
  refine wpAny_pure (wpAny_bind (J.type.at (wpAny_bind ?_)))
  refine (W.looks_findIn X ha).at (wpAny_bind (e3.at ?_))
  show wpAny _ _ (storeInOwnDict (.ref x) (.ref C) (.str f tk) f v false) _ _ _
  obtain ⟨nm, bs, mro, ns, qn, hd, sn, sb, ab, col, del⟩ := cd
  dsimp only at hh
  subst hh
  unfold storeInOwnDict ownDictForStores
  repeat (first
    | with_reducible refine store_in_new ?_ ?_
    | with_reducible refine wpAny_loadPart_at hx ?_
    | with_reducible refine e4.at ?_
    | wp_step)
  · have y : (hp.push { cls := .type "dict", data := .dict #[] }).get? hp.objs.size = _ := Heap.get?_push_at rfl rfl
    exact ⟨_, #[], _, (Heap.get?_update_ne _ _ _ _ nx.symm).trans y, rfl, fun e he => absurd he (by simp), fun _ => rfl⟩
  · intro h' tk' hn' hs
    have y : (hp.push { cls := .type "dict", data := .dict #[] }).get? x = some { cls := .ref C, data := .fields fv } :=
      Heap.get?_push_of_some _ hx
    refine hq h' tk' hp.objs.size (fun b o hb ho => ?_) (Nat.le_refl _) nx.symm ?_ hn'
    · have z := Heap.get?_push_of_some { cls := .type "dict", data := .dict #[] } ho
      exact (hs.2 b (Nat.ne_of_lt (Heap.lt_size ho))).trans ((Heap.get?_update_ne _ _ _ _ hb).trans z)
    · exact (hs.2 x nx).trans (Heap.get?_update_self _ y rfl)
end
end ExK
namespace W
open PySem PySem.Spec PySem.Calls PyProof.Rows
section
variable {prog : Program} {w : World} {A : Around} {E : Value → Shared → Prop} {s : Shared} {K : Frag} {x D : Addr} {ox : Obj} {od : Option Obj}
/-- x.__class__, x an exception, with a dict or without -/
theorem exk_class {Q : Option Value → Shared → Prop} (ga : findIn K (.ref D) "__getattribute__" = some (some (.builtin "BaseException.__getattribute__")))
    (gg : findIn K (.ref D) "__getattr__" = some none) (sb : subIn K (.ref D) (.type "BaseException") = some true) (hf : findObj K D od "__class__" = some (.bind (.builtin "getset_descriptor.__get__") (.builtin "object.__class__")))
    (hm : mroIn K D (.type "object") = some true) (X : K.In s.heap) (I : InstAt s.heap x ox D od) (h : Q (some (.ref D)) { s with toks := s.toks + 1 }) :
    wpAny (model prog w) A (getAttr? (.ref x) "__class__") Q E s := by
  obtain ⟨hp, g, d, t, os⟩ := s
  have l0 := I.type (M := model prog w)
  have l1 := looks_findIn (M := model prog w) X ga
  have l2 := looks_findIn (M := model prog w) X gg
  have l3 := looks_find (M := model prog w) X I hf
  have l4 : Looks (model prog w) hp (isInstance (.ref x) (.type "BaseException")) true :=
    l0.andThen (looks_subIn X sb)
  have b0 : (false && onTheHeap (Value.builtin "BaseException.__getattribute__")) = false := rfl
  have b1 : (onTheHeap (Value.ref D) && Value.builtin "BaseException.__getattribute__" == Value.builtin "object.__getattribute__") = false := by
    rw [show (Value.builtin "BaseException.__getattribute__" == Value.builtin "object.__getattribute__") = false by decide +kernel]
    rfl
  unfold getAttr? getAttrBy? getAttrBy
  refine wpAny_bind (wpAny_mkText (wpAny_bind (wpAny_attempt ?_)))
  refine wpAny_holding (wpAny_bind (l0.at (wpAny_bind (l1.at ?_))))
  show wpAny _ _ (if (onTheHeap (Value.ref D) && Value.builtin "BaseException.__getattribute__" == Value.builtin "object.__getattribute__") = true
    then _ else _) _ _ _
  rw [b1, if_neg Bool.false_ne_true]
  unfold getAttrByItsOwn hookBefore
  apply wpAny_bind
  rw [if_pos (show onTheHeap (Value.ref D) = true from rfl)]
  apply l2.at
  apply wpAny_bind
  refine wpAny_attempt (wpAny_holding ?_)
  unfold callGetattribute
  rw [b0, if_neg Bool.false_ne_true]
  unfold boundAndCalled
  rw [PySem.F.excAttr_ValueError.ga.bind (.ref x)]
  refine wpAny_bind (wpAny_pure ?_)
  show wpAny _ _ (call (.builtin "BaseException.__getattribute__")
    [.ref x, .str "__class__" t]) _ _ _
  apply wpAny_call
  apply codeAny_call_builtin PySem.F.excAttr_ValueError.ga.plain PySem.F.entry_bexc_ga
  refine @check_slot (model prog w) _ _ ⟨hp, g, d, t + 1, os⟩ "BaseException.__getattribute__" "BaseException" "__getattribute__" (.ref x)
    [.str "__class__" t] [] _ (by decide +kernel) (by decide +kernel) l4 (PySem.F.args_bexc_ga (.ref x) (.str "__class__" t)) ?_
  unfold Builtin.«object.__getattribute__»
  refine wpAny_bind (wpAny_of_eq (a := ((Value.ref x : Value), [Value.str "__class__" t])) (by
    first
      | rfl
      | (simp only [slotArgs]
         rfl)) ?_)
  refine wpAny_bind (wpAny_pure (wpAny_bind (l0.at ?_)))
  refine wpAny_bind (l3.at ?_)
  show wpAny _ _ (holding [Value.builtin "object.__class__"]
    (call (.builtin "getset_descriptor.__get__") [.builtin "object.__class__", .ref x, .ref D]) >>= ret) _ _ _
  refine wpAny_bind (wpAny_holding (wpAny_call ?_))
  refine class_get (s := ⟨hp, g, d, t + 1, os⟩) (ox := ox) (od := od) X I hm ?_
  apply wpAny_pure
  show wpAny _ _ (handedOut (.ref D)) _ _ _
  rw [handedOut_of (v := .ref D) rfl]
  first
    | exact wpAny_pure (wpAny_pure h)
    | exact wpAny_pure h
    | exact wpAny_pure (wpAny_bind (wpAny_pure (wpAny_pure h)))
theorem exk_kit (ga : findIn K (.ref D) "__getattribute__" = some (some (.builtin "BaseException.__getattribute__"))) (gg : findIn K (.ref D) "__getattr__" = some none)
    (sb : subIn K (.ref D) (.type "BaseException") = some true) (hd : hasDictIn K D = true) (hf : findObj K D od "__class__" = some (.bind (.builtin "getset_descriptor.__get__") (.builtin "object.__class__")))
    (hm : mroIn K D (.type "object") = some true) : KitX K (.ref x) (.ref D) (fun h => InstAt h x ox D od) := by
  have there : ∀ h : Heap, K.In h → ∃ o : Obj, h.get? D = some o ∧ (∀ its n, o.data ≠ .seq its n) ∧ ∃ cd, o.data = .cls cd := fun h X => by
    obtain ⟨cd, hc, _⟩ := any_some hd
    unfold clsIn at hc
    split at hc
    · rename_i ho
      exact ⟨_, X _ _ ho, fun _ _ z => (nomatch z), _, rfl⟩
    · cases hc
  refine ⟨fun _ _ _ I => I.type, fun M h X _ => ?_, fun h tp dd its n sl X htp => ?_, fun X I k => exk_class ga gg sb hf hm X I k⟩
  · obtain ⟨o, ho, _, cd, hcd⟩ := there h X
    obtain ⟨oc, odd, oda, osl⟩ := o
    dsimp only at hcd
    subst hcd
    intro A' Q' E' s' k q
    unfold isType loadHead
    exact wpAny_bind (wpAny_loadPart (k _ _ ho) (wpAny_pure q))
  · refine Bool.eq_false_iff.mpr fun q => ?_
    obtain rfl : D = tp := Value.ref.inj (beq_iff_eq.mp q)
    obtain ⟨o, ho, hn, _⟩ := there h X
    rw [ho] at htp
    cases htp
    exact hn _ _ rfl
end
end W
end PySem
namespace L2
open PySem PySem.Spec PyProof.Rows PySem.ExK
/-- what the written part says of an own exception class at C, of whatever base -/
structure ExvC (K : PySem.W.Frag) (C : Addr) : Prop where
  cls : ∃ nm q N bs bm sn sub ab col dd k0 k1 k2 k3 k5 B newId initId bmB, K.lookup C = some (excClassObj nm q C N bs bm true sn sub ab col dd k0 k1 k2 k3 k5 newId) ∧
    ExcBaseFacts B newId initId bmB ∧ SameB bm bmB ∧ MroOk (.ref C :: bm)
  sa : PySem.W.findIn K (.ref C) "__setattr__" = some (some (.builtin "object.__setattr__"))
  kC : PySem.W.keepIn K (.ref C) = true
section
variable {X : Cx} {pins : List (Addr × Obj)} {σ : St} {H : Hp} {s : Shared} {a C dx : Addr} {f : Str} {y : V} {u : Value}
theorem st_ex (T : ExvC X.K C) (I : Inv X pins σ H s) (e : H a = some (exo a C none)) (hno : PySem.W.findIn X.K (.ref C) f = some none) (ry : RelV y u) {A : Around} {Q : Unit → Shared → Prop} {E : Value → Shared → Prop}
    (h : ∀ dx s', H dx = none → dx ≠ a → Inv X pins σ (upd (upd H dx (exd dx [(f, y)])) a (exo a C (some dx))) s' → Q () s') : wpAny (model X.prog X.w) A (setAttr (.ref a) f u) Q E s := by
  obtain ⟨nm, q, N, bs, bm, sn, sub, ab, col, dd, k0, k1, k2, k3, k5, B, newId, initId, bmB, hC, FB, hS, hM⟩ := T.cls
  obtain ⟨cd, hcd, c1, c2⟩ : ∃ cd : ClassData, PySem.W.clsIn X.K C = some cd ∧ cd.mro = .ref C :: bm ∧ cd.hasDict = true := by
    unfold PySem.W.clsIn
    rw [hC]
    exact ⟨_, rfl, rfl, rfl⟩
  obtain ⟨t1, ho⟩ := exo_at I.hok e
  obtain ⟨hp, g, d, t, os⟩ := s
  have J : PySem.W.InstAt hp a ({ cls := .ref C, dict := none, data := .fields #[.ref t1, .none, .none, .none, .bool false, .none] } : Obj) C none := ⟨ho, rfl, rfl, trivial⟩
  refine PySem.W.set_plain I.kIn J T.sa (st_gen I.kIn ho hcd (by rw [c1]; exact hM) c2 hno fun h' tk' dx k dn dne hx hn => ?_)
  have hnd : H dx = none := I.hok.fresh dn
  have n1 : ∀ {b : Addr} {o : Obj}, hp.get? b = some o → b ≠ dx := fun {b o} q =>
    Nat.ne_of_lt (Nat.lt_of_lt_of_le (Heap.lt_size q) dn)
  have n2 : ∀ {b : Addr}, H b = none → b ≠ a := fun {b} n z => by
    rw [z, e] at n
    cases n
  have stay : ∀ {b : Addr} {o : HO}, H b = some o → exo a C none ≠ o → (upd (upd H dx (exd dx [(f, y)])) a (exo a C (some dx))) b = some o := fun {b o} q n => by
    rw [upd_ne (at_ne e q n), upd_ne (ne_of_none q hnd)]
    exact q
  have U : Un X.fs [] H (upd (upd H dx (exd dx [(f, y)])) a (exo a C (some dx))) hp h' := {
    keep := fun b o q n _ _ => k b o (n2 n) q
    slot := fun b o q n _ _ => ⟨o.slots, k b o (n2 n) q⟩
    free := fun b o q n _ => by
      rw [upd_ne (n2 n), upd_ne (n1 q)]
      exact n
    there := fun b o q _ => by
      by_cases hb : b = a
      · subst hb
        exact ⟨_, hx⟩
      · exact ⟨o, k b o hb q⟩
    tups := fun b xs q => stay q exo_tup
    frzs := fun b o v q => stay q exo_frz
    tbls := fun b ps q => ⟨#[], by rw [stay q exo_tbl]; simp⟩ }
  refine h dx _ hnd dne (I.un (t' := tk') U fun b o q => ?_)
  by_cases hb : b = a
  · subst hb
    rw [upd_same] at q
    cases q
    exact exo_ok hx
  rw [upd_ne hb] at q
  by_cases hd : b = dx
  · subst hd
    rw [upd_same] at q
    cases q
    exact exd_ok hn (relO_put (fs := []) ry fun g => True.intro)
  rw [upd_ne hd] at q
  refine (I.hok b o q).stay (fun c v hc z => k c v (fun e2 => ?_) z) (fun c hc => stay hc exo_own) (fun c xs hc => stay hc exo_tup)
  rcases hc with hc | hc
  · exact hb (hc.symm.trans e2)
  · exact at_ne e hc exo_own e2
/-- self.f = e, self an exception that has no field yet -/
def tStx (K : PySem.W.Frag) (f : Str) (to te : TE) : TS := fun D σ H => te σ H fun y H1 => to σ H1 fun x H2 => ∃ a C : Addr, x = .ref a ∧ ExvC K C ∧ PySem.W.findIn K (.ref C) f = some none ∧
  H2 a = some (exo a C none) ∧ ∀ dx, H2 dx = none → dx ≠ a → D.nx σ (upd (upd H2 dx (exd dx [(f, y)])) a (exo a C (some dx)))
end
section
variable {X : Cx} {o e : Expr} {es : List Expr} {to te : TE} {ta tk : TA} {f : Str} {p p' pos : Pos}
theorem ps_stx (ho : PE X o to) (he : PE X e te) (hs : swapsWith e (some (.Attribute o f p')) pos.line X.env = pure false := by rfl) :
    PS X (.Assign [.Attribute o f p'] e pos) (tStx X.K f to te) := by
  constructor
  intro pins s σ H D I h
  refine plainObj_wpAny_Assign_Attribute (thn (he.run pins s σ H _ I h) fun v s1 ⟨y, H1, I1, r1, q1⟩ => ?_) hs
  refine thn (ho.run pins s1 σ H1 _ I1 q1) fun u s2 ⟨x, H2, I2, r2, a, C, ex, T, hno, ea, q⟩ => ?_
  subst ex
  obtain rfl : u = Value.ref a := r2
  exact st_ex T I2 ea hno r1 fun dx s' n ne J => ⟨σ, _, J, q dx n ne⟩
/-- the making: us, the positional values; kw, the keywords; ws, what the parameters get -/
theorem run_ex {pins : List (Addr × Obj)} {σ : St} {H1 : Hp} {s1 : Shared} {Q : VK} {C fI : Addr} {k : Nat} {fd : FuncData} {ps : List Str} {sp : Sp} {CX : CXT} (T : ExvC X.K C) (iC : PySem.W.findIn X.K (.ref C) "__init__" = some (some (.ref fI)))
    (tI : PySem.W.typeIn X.K (.ref fI) = some (.type "function")) (F1 : FnOk X.prog X.w X.K X.mg X.base CX k fI fd ps sp) (hr : Room (k + 1) X.A) (hx : Passes CX X (fun _ _ _ => False)) (I1 : Inv X pins σ H1 s1)
    {us ws : List Value} {vs : List V} {kw : List (Str × Value)} (hl : us.length ≤ 1000) (rv : Vals vs ws) (hb : ∀ (s : Shared) (r : Value), BindsTo s fd ⟨r :: us, kw⟩ (ps.zip (r :: ws)))
    (h : ∀ a, H1 a = none → sp (.ref a :: vs) (upd H1 a (exo a C none)) (fun v H2 => v = .non ∧ Q (.ref a) H2) (fun _ _ _ => False)) :
    wpAny (model X.prog X.w) X.A (call (.ref C) us kw) (EP X pins σ Q) X.xe s1 := by
  obtain ⟨nm, q, N, bs, bm, sn, sub, ab, col, dd, k0, k1, k2, k3, k5, B, newId, initId, bmB, hC, FB, hS, hM⟩ := T.cls
  obtain ⟨hp, g, dr, tk, os⟩ := s1
  have z1 : hp.objs.size ≤ hp.objs.size + 1 := Nat.le_succ _
  have hq := h (hp.objs.size + 1) (I1.hok.fresh z1)
  have kk : ∀ b o, hp.get? b = some o → ((hp.push (PySem.W.kdv_tup us)).push (PySem.HandSPX.excO C hp.objs.size)).get? b = some o := fun b o e =>
    Heap.get?_push_of_some _ (Heap.get?_push_of_some _ e)
  have z2 : ((hp.push (PySem.W.kdv_tup us)).push (PySem.HandSPX.excO C hp.objs.size)).get? (hp.objs.size + 1) = some (PySem.HandSPX.excO C hp.objs.size) := by
    heap_get
  have I2 : Inv X pins σ (upd H1 (hp.objs.size + 1) (exo (hp.objs.size + 1) C none)) ⟨(hp.push (PySem.W.kdv_tup us)).push (PySem.HandSPX.excO C hp.objs.size), g, dr, tk, os⟩ :=
    I1.laid (t' := tk) (a := hp.objs.size + 1) (o := exo (hp.objs.size + 1) C none) kk z1 (exo_ok z2)
  have r2 : Vals (V.ref (hp.objs.size + 1) :: vs) (Value.ref (hp.objs.size + 1) :: ws) := .cons rfl rv
  have hus : us.length ≤ sizeLine := Nat.le_trans hl (by decide)
  have run := F1.run _ X.stack _ _ ⟨Value.ref (hp.objs.size + 1) :: us, kw⟩ (Value.ref (hp.objs.size + 1) :: ws) _ _ (fun _ _ _ => False) (hr.make C us kw) (I2.env0.make C us kw) (hb _ _) r2 hq
  refine wpAny_call (own_kw FB hS (I1.kIn _ _ hC) (PySem.W.looks_findIn I1.kIn iC) (fun v => PySem.W.bind_fn I1.kIn v tI) hus (codeAny_mono run fun r s' hq' => ?_))
  cases r with
  | error er => exact hx pins σ _ _ er s' I2 hq'
  | ok fl =>
    cases fl with
    | ret u =>
      obtain ⟨v, H', I3, rv, ev, q3⟩ := I2.after hq'
      subst ev
      exact ⟨rv, ⟨V.ref (hp.objs.size + 1), H', I3, rfl, q3⟩⟩
    | next => exact False.elim hq'
    | brk => exact False.elim hq'
    | cont => exact False.elim hq'
/-- C(e, ..) | C(k = e, ..): an own exception with its own __init__, as a value -/
def tExv (C : Addr) (sp : Sp) (ta : TA) : TE := fun σ H Q => ta σ H fun vs H1 => vs.length = 1 ∧ ∀ a, H1 a = none → sp (.ref a :: vs) (upd H1 a (exo a C none)) (fun v H2 => v = .non ∧ Q (.ref a) H2) (fun _ _ _ => False)
variable {CX : CXT} {x : Str} {C fI : Addr} {k : Nat} {fd : FuncData} {ps : List Str} {sp : Sp}
theorem pe_exv (T : ExvC X.K C) (iC : PySem.W.findIn X.K (.ref C) "__init__" = some (some (.ref fI))) (tI : PySem.W.typeIn X.K (.ref fI) = some (.type "function")) (F1 : FnOk X.prog X.w X.K X.mg X.base CX k fI fd ps sp)
    (hr : Room (k + 1) X.A) (hb : ∀ (s : Shared) (r u : Value), BindsTo s fd ⟨[r, u], []⟩ (ps.zip [r, u])) (hx : Passes CX X (fun _ _ _ => False)) (hg : Gl X x) (hm : X.mg x = some (.ref C)) (ha : PA X [e] ta)
    (hdb : (x == ("__debug__" : Str)) = false := by decide) (he : starEach [e] X.env = (false, eval e X.env) :: starEach [] X.env := by rfl) (hpl : (backTo pos (starEach [] X.env)).any (·.1) = false := by rfl) :
    PE X (.Call (.Name x p) [e] [] pos) (tExv C sp ta) := by
  constructor
  intro pins s σ H Q I h
  refine wpAny_Call_Name_kw (ld_glob I hg hm ?_ hdb)
  refine PySem.W.callWith_K (h₀ := X.base) I.ok.mod.kin T.kC (thn (ha.run pos pins s σ H _ I h) fun us s1 ⟨vs, H1, I1, r1, hz, q1⟩ => ⟨I1.kIn, ?_⟩) he hpl
  match vs, hz, r1 with
  | [v], _, r1 =>
    obtain ⟨u, rfl, ru⟩ := vals1 r1
    exact run_ex (us := [u]) T iC tI F1 hr hx I1 (show 1 ≤ 1000 by decide) r1 (fun s r => hb s r u) q1
theorem pe_exvK {kws : List Keyword} {kn : Str} (T : ExvC X.K C) (iC : PySem.W.findIn X.K (.ref C) "__init__" = some (some (.ref fI))) (tI : PySem.W.typeIn X.K (.ref fI) = some (.type "function")) (F1 : FnOk X.prog X.w X.K X.mg X.base CX k fI fd ps sp)
    (hr : Room (k + 1) X.A) (hb : ∀ (s : Shared) (r u : Value), BindsTo s fd ⟨[r], [(kn, u)]⟩ (ps.zip [r, u])) (hx : Passes CX X (fun _ _ _ => False)) (hg : Gl X x) (hm : X.mg x = some (.ref C)) (hkw : PK X kws tk)
    (hall : (backToKw pos (keywordEach kws X.env)).all (·.1.isSome) = true := by rfl) (hks : (backToKw pos (keywordEach kws X.env)).filterMap (·.1) = [kn] := by rfl)
    (hdb : (x == ("__debug__" : Str)) = false := by decide) (hpl : ((backTo pos (starEach [] X.env)).any (·.1) || (backToKw pos (keywordEach kws X.env)).any (·.1.isNone)) = false := by rfl) :
    PE X (.Call (.Name x p) [] kws pos) (tExv C sp tk) := by
  constructor
  intro pins s σ H Q I h
  refine wpAny_Call_Name_kw (ld_glob I hg hm ?_ hdb)
  refine PySem.W.callWith_KW0 (h₀ := X.base) I.ok.mod.kin T.kC hall (thn (hkw.run pos pins s σ H _ I h) fun us s1 ⟨vs, H1, I1, r1, hz, q1⟩ => ⟨I1.kIn, ?_⟩) hpl
  rw [hks]
  match vs, hz, r1 with
  | [v], _, r1 =>
    obtain ⟨u, rfl, ru⟩ := vals1 r1
    exact run_ex (us := []) (kw := [(kn, u)]) T iC tI F1 hr hx I1 (by decide) r1 (fun s r => hb s r u) q1
/-- C(), an own exception class without an __init__ of its own -/
theorem pe_exv0 {bmB : List Value} {B newId initId : String} (F : ExcBaseFacts B newId initId bmB) (q : PySem.W.excIn X.K C bmB newId = true) (gC : X.mg x = some (.ref C)) (kC : PySem.W.keepIn X.K (.ref C) = true) (hg : Gl X x)
    (hdb : (x == ("__debug__" : Str)) = false := by decide) : PE X (.Call (.Name x p) [] [] pos) (fun _ H Q => ∀ a, H a = none → Q (.ref a) (upd H a (ExO (.ref C) a))) := by
  constructor
  intro pins s σ H Q I h
  refine wpAny_Call_Name_kw (ld_glob I hg gC ?_ hdb)
  refine PySem.W.callWith_K0 I.kIn kC ?_
  show wpAny _ _ (call (.ref C) []) _ _ _
  obtain ⟨bm, N, nm, qn, bs, hdct, sn, sub, ab, col, dd, k0, k1, k2, k3, k5, mN, hC, hN, hni, T⟩ := exc_obj I.kIn q
  refine wpAny_call_exc_subT F T hC hN hni (fun h' a hm => ?_) (Nat.zero_le _)
  have hn : H a = none := I.hok.gone hm.new
  obtain ⟨t, ht, _, _⟩ := hm.there
  exact ⟨.ref a, upd H a (ExO (.ref C) a), I.laidN hm.keeps hm.new hn (exO_ok ht ⟨rfl, rfl⟩ rfl rfl rfl (show 4 < 6 by decide)), rfl, h a hn⟩
/-- e.f, e an exception that has the field -/
def tFx (K : PySem.W.Frag) (f : Str) (te : TE) : TE := fun σ H Q => te σ H fun x H1 => ∃ (a C d : Addr) (v : V), x = .ref a ∧ XfC K C ∧ PySem.W.findIn K (.ref C) f = some none ∧ H1 a = some (exo a C (some d)) ∧ H1 d = some (exd d [(f, v)]) ∧ Q v H1
theorem pe_fx (he : PE X e te) (hb : attributeBase e f X.env (eval e X.env) = eval e X.env := by rfl) : PE X (.Attribute e f pos) (tFx X.K f te) := by
  constructor
  intro pins s σ H Q I h
  refine attr_of hb (thn (he.run pins s σ H _ I h) fun u s1 hh => ?_)
  obtain ⟨x, H1, I1, rx, a, C, d, v, ex, T, hno, ea, ed, q⟩ := hh
  subst ex
  obtain rfl : u = Value.ref a := rx
  obtain ⟨t1, ho⟩ := exo_at I1.hok ea
  obtain ⟨mA, hns, hr⟩ := exd_at I1.hok ed
  obtain ⟨od, hod, hl⟩ := lookIn_ns hns
  have l : [(f, v)].lookup f = some v := by simp
  obtain ⟨w, hw, rw'⟩ := RelO.some_of (v := v) (o := mA f) (by rw [← l]; exact hr f)
  have J : PySem.W.InstAt s1.heap a _ C (some od) := ⟨ho, rfl, rfl, hod⟩
  exact HandSPX.exc_get I1.kIn J T.ga T.gg T.exC (PySem.W.findObj_own T.hdC hno rfl (by rw [hl, hw])) (handed_of rw') ⟨v, H1, I1.tok _, rw', q⟩
/-- isinstance(e, c), e an exception that stands in H -/
def ExAt (H : Hp) (a C : Addr) : Prop := (∃ d fs, H a = some (exo a C (some d)) ∧ H d = some (exd d fs)) ∨ H a = some (ExO (.ref C) a)
def rIsV (K : PySem.W.Frag) : List V → Hp → VK → Prop := fun xs H Q => ∃ (a C : Addr) (c : V) (u : Value) (b : Bool), xs = [.ref a, c] ∧ ExAt H a C ∧ ExcC K C ∧ ClsV c u ∧ PySem.W.kitOne K (.ref C) u = some b ∧ Q (.bl b) H
theorem call_isV : CallR X (.builtin "isinstance") (rIsV X.K) := by
  intro pins s σ H xs us Q I r h
  obtain ⟨a, C, c, u, b, rfl, ea, hc, k, e, q⟩ := h
  obtain ⟨u1, u2, rfl, r1, r2⟩ := vals2 r
  have e2 := k.eq r2
  subst e2
  cases r1
  have ok : ∀ {od : Option Obj}, PySem.W.findObj X.K C od "__class__" = some (.bind (.builtin "getset_descriptor.__get__") (.builtin "object.__class__")) := fun {od} => by
    obtain ⟨cd, hcd, _⟩ := PySem.W.any_some hc.hd
    have hs : (PySem.W.clsIn X.K C).isSome = true := by
      rw [hcd]
      rfl
    cases od with
    | none => exact PySem.W.findObj_dataN hs hc.ha hc.hn hc.ht
    | some o => exact PySem.W.findObj_data hs hc.ha hc.hn hc.ht
  obtain ⟨oe, od, J⟩ : ∃ oe od, PySem.W.InstAt s.heap a oe C od := by
    rcases ea with ⟨d, fs, ea, ed⟩ | ea
    · obtain ⟨t1, ho⟩ := exo_at I.hok ea
      obtain ⟨mA, hns, _⟩ := exd_at I.hok ed
      obtain ⟨od, hod, _⟩ := lookIn_ns hns
      exact ⟨_, some od, ho, rfl, rfl, hod⟩
    · have z : ObjOk X.prog X.w H s.heap a (ExO (.ref C) a) := I.hok a _ ea
      obtain ⟨⟨oe, vs, h1, ⟨h2, h3⟩, h4, _⟩, _⟩ := z
      exact ⟨oe, none, h1, h2, by unfold PySem.W.notCls; rw [h4], by rw [h3]; trivial⟩
  exact PySem.W.kia_one (PySem.W.exk_kit hc.hg hc.hk hc.hs hc.hd ok hc.hm) I.kIn J e (fun z => nomatch z) fun tk => ⟨.bl b, H, I.tok tk, rfl, q⟩
end
end L2

namespace Toy
open PySem L2 PySem.Spec PyProof.Rows PySem.ExK
def top (i : Nat) : Stmt := PySem.Challenge.pw_handlesagain_k07_tables_refused.main.body.getD i (.Pass ⟨0, 0, 0, 0⟩)
theorem _root_.L2.Same.new {H : Hp} {a : Addr} {o : HO} (h : H a = none) : Same H (upd H a o) := fun b u e => by
  rw [upd_ne (ne_of_none e h)]
  exact e
/-! ### where no repr is under way -/
section
/-- a def's promise, where no repr is under way around the call -/
structure FnG (P : Program) (w : World) (K : PySem.W.Frag) (mg : Str → Option Value) (base : Heap) (CX : CXT) (k : Nat) (f : Addr) (fd : FuncData) (ps : List Str) (sp : Sp) : Prop where
  len : ∀ vs H Q E, sp vs H Q E → vs.length = ps.length
  run : ∀ (A : Around) (outer : List Env) (s : Shared) (H : Hp) (args : Args) (us : List Value) (vs : List V) (Q : VK) (E : XK), A.guards = some [] → Room k A → Env0 P w K mg base A outer s H →
    BindsTo s fd args (ps.zip us) → Vals vs us → sp vs H Q E → codeAny (model P w) A (.call (.ref f) args) (CR CX outer P w H s Q E) s
theorem fnG_ok {P : Program} {w : World} {K : PySem.W.Frag} {mg : Str → Option Value} {base : Heap} {k : Nat} {x qual : Str} {st : Stmt} {f : Addr} {fd : FuncData} {N ps : List Str} {sp : Sp} (F : Fun K x qual st f fd) (S : FnScope N ps (defScope st))
    (len : ∀ vs H Q E, sp vs H Q E → vs.length = ps.length)
    (body : ∀ (cdv : Value) (A : Around) (outer : List Env) (s : Shared) (H : Hp) (vs : List V) (Q : VK) (E : XK), A.guards = some [] → Room k (A.deeper (PyProof.Rows.envOfC qual (defScope st) s.heap.objs.size f cdv)) → sp vs H Q E →
      ∃ t, PSs (cxOf CX0 P w K mg base N qual (defScope st) f cdv A outer s H E).nox (defBody st) t ∧ t { nx := fun _ H' => Q .non H', rt := Q } (start N vs) H) :
    FnG P w K mg base CX0 (k + 1) f fd ps sp := by
  obtain ⟨oc, od, kV, doc, pm, an, cdv, ct, osl, rfl, lk, hcd⟩ := F.ex
  constructor
  · exact len
  intro A outer s H args us vs Q E hg hr e0 hb r hsp
  have hl := len _ _ _ _ hsp
  have old : ∀ b o, base.get? b = some o → s.heap.get? b = some o := fun b o e => (e0.bs b o e).1
  have KX : K.In s.heap := e0.mod.kin.keeps old
  have kinds : ∀ y ∈ ps.zip us, (defScope st).names.lookup y.1 = some .local ∨
      ((defScope st).names.lookup y.1 = some .cell ∧ ((cellsFrom (s.heap.objs.size + 1) (defScope st).names []).lookup y.1).isSome = true) := by
    rintro ⟨n, v⟩ hy
    have q := S.par n (List.of_mem_zip hy).1
    refine q.imp id fun q => ⟨q, ?_⟩
    exact PySem.W.cellsFrom_some _ _ _ (.inl q)
  refine codeAny_call_function hr.depth (KX _ _ lk) rfl S.co S.gen rfl (PySem.W.codeRec_of KX hcd) (hb _ _ _ _ ?_)
  refine wpAny_newFunctionEnv_cells S.kind kinds fun env he s1 z => ?_
  subst he
  refine ⟨(e0.mod.nolimit.keeps old).keeps z.toInCall.keep, PySem.codeAny_func ?_⟩
  obtain ⟨t, ht, hq⟩ := body cdv A outer s H vs Q E hg (hr.deeper _) hsp
  have I := inv_start (CX := CX0) (E := E) (cd := cdv) (f := f) S hr.hd e0 hl r z
  refine wpAny_mono (ht.nox.run [] s1 (start N vs) H _ I hq) (fun fl s' hs => ?_) fun e s' hs => hs
  cases fl with
  | ret u =>
    obtain ⟨v, σ', H', J, rv, q⟩ := hs
    exact ⟨v, H', J.os, J.bare, J.base, J.hok, rv, q⟩
  | next =>
    obtain ⟨σ', H', J, q⟩ := hs
    exact ⟨V.non, H', J.os, J.bare, J.base, J.hok, rfl, q⟩
  | brk => exact hs.choose_spec.choose_spec.2.elim
  | cont => exact hs.choose_spec.choose_spec.2.elim
/-- the law's own call -/
theorem lawG {P : Program} {w : World} {K : PySem.W.Frag} {mg mb : Str → Option Value} {k : Nat} {fa a : Addr} {fd : FuncData} {sp : Sp} {s₁ : Shared} {vs : List Value} {ns : List Int} (KX : K.In s₁.heap) (hns : s₁.heap.Ns mainGlobals mg)
    (hb : s₁.heap.Ns builtinsNs mb) (hbb : ∀ x : Str, x ≠ "__name__" → mb x = bootBuiltins x) (hlim : s₁.heap.NoLimit) (hg : s₁.gens = #[])
    (ha : s₁.heap.get? a = some { cls := .type "list", data := .seq vs.toArray }) (hi : PyProof.Rows.IntsAre vs ns) (hl : ns.length ≤ sizeLine) (hr : Room k callerA)
    (F : ∀ base : Heap, K.In base → base.Ns mainGlobals mg → FnG P w K mg base CX0 k fa fd ["script"] sp) (bind : ∀ (s : Shared) (u : Value), BindsTo s fd ⟨[u], []⟩ [("script", u)])
    (hsp : ∀ H : Hp, SqL K H a (ns.map V.int) → sp [.ref a] H (fun v _ => v = .bl true) fun _ _ _ => False) :
    codeAny (model P w) callerA (.call (.ref fa) ⟨[.ref a], []⟩) (fun r s' => r = .ok (.ret (.bool true)) ∧ PySem.OldK s₁.heap s'.heap ∧ s'.os = s₁.os ∧ AllBare s'.gens) s₁ := by
  have rv := vals_ints hi
  have lenV := hi.length
  -- the abstract heap: nothing, or the script, locked
  have go : ∀ H : Hp, (∀ b o, H b = some o → b = a ∧ K.lookup a = none ∧ o = .frz { cls := .type "list", data := .seq vs.toArray } (.lst (ns.map V.int))) → SqL K H a (ns.map V.int) →
      codeAny (model P w) callerA (.call (.ref fa) ⟨[.ref a], []⟩) (fun r s' => r = .ok (.ret (.bool true)) ∧ PySem.OldK s₁.heap s'.heap ∧ s'.os = s₁.os ∧ AllBare s'.gens) s₁ := by
    intro H hA hS
    have hok : HOk P w H s₁.heap := fun b o q => by
      obtain ⟨rfl, _, rfl⟩ := hA b o q
      exact ⟨ha, by rw [List.length_map]; exact hl, vs, _, rv, ha⟩
    have low : ∀ {b : Addr} {o : Obj}, s₁.heap.get? b = some o → H b = none → (hidT s₁.heap H).get? b = some o := fun e n => hidT_get e n
    have free : ∀ {b : Addr} {o : Obj}, s₁.heap.get? b = some o → (∀ its n, o.data ≠ .seq its n) → H b = none := fun {b o} e d => by
      cases q : H b with
      | none => rfl
      | some u =>
        obtain ⟨rfl, _⟩ := hA b u q
        rw [ha] at e
        cases e
        exact absurd rfl (d _ _)
    have nsT : ∀ {b : Addr} {m : Str → Option Value}, s₁.heap.Ns b m → (hidT s₁.heap H).Ns b m := fun {b m} z => by
      obtain ⟨o, es, ep, e, d, r⟩ := z
      exact ⟨o, es, ep, low e (free e fun its n y => by rw [d] at y; cases y), d, r⟩
    have kT : K.In (hidT s₁.heap H) := fun b o e => by
      refine low (KX b o e) ?_
      cases q : H b with
      | none => rfl
      | some u =>
        obtain ⟨rfl, z, _⟩ := hA b u q
        rw [z] at e
        cases e
    have hM : Mod K mg (hidT s₁.heap H) := by
      obtain ⟨mc, h1, h2⟩ := hlim
      exact ⟨kT, nsT hns, ⟨mb, nsT hb, hbb⟩, ⟨mc, nsT h1, h2⟩⟩
    have e0 : Env0 P w K mg (hidT s₁.heap H) callerA [] s₁ H :=
      ⟨rfl, hM, fun b o e => of_hidT e, Nat.le_of_eq (hidT_size _ _), trivial, fun b hb => (nomatch hb), hok, .of_eq hg⟩
    have run := (F _ kT (nsT hns)).run callerA [] s₁ H ⟨[.ref a], []⟩ [.ref a] [.ref a] _ _ rfl hr e0 (bind s₁ (.ref a)) (.cons rfl .nil) (hsp H hS)
    refine codeAny_mono run fun r s' h => ?_
    cases r with
    | error e => exact False.elim h
    | ok fl =>
      cases fl with
      | next => exact False.elim h
      | brk => exact False.elim h
      | cont => exact False.elim h
      | ret u =>
        obtain ⟨v, H', os, bare, un, hok', r', q⟩ := h
        obtain rfl : v = .bl true := q
        obtain rfl : u = Value.bool true := r'
        refine ⟨rfl, PySem.OldK.of_keep fun b o e => ?_, os, bare⟩
        cases q : H b with
        | none => exact un.keep b o e q (fun z => nomatch z) (fun z => nomatch z)
        | some u =>
          obtain ⟨rfl, _, rfl⟩ := hA b u q
          have z := un.frzs b _ _ q
          rw [ha] at e
          cases e
          exact (hok' b _ z).1
  cases hk : K.lookup a with
  | some o =>
    have e := KX a o hk
    rw [ha] at e
    cases e
    refine go (fun _ => none) (fun b o z => nomatch z) (.inr ⟨_, vs.toArray, _, hk, rfl, rfl, rfl, ?_, by simpa using rv⟩)
    rw [List.size_toArray, lenV]
    exact hl
  | none =>
    refine go (fun b => if b = a then some (.frz { cls := .type "list", data := .seq vs.toArray } (.lst (ns.map V.int))) else none) (fun b o z => ?_) (.inl (.inr ⟨_, if_pos rfl⟩))
    by_cases hb : b = a
    · rw [if_pos hb] at z
      exact ⟨hb, hk, (Option.some.inj z).symm⟩
    · rw [if_neg hb] at z
      cases z
theorem walkG {l : PySem.W.OpenLaw} {k : Nat} {q : Program} {loose : List Str} {XP : (Str → Option Value) → Heap → Prop} {YP : World → Heap → Prop} {d : DefRec} {K : Params → PySem.W.Frag} {sp : PySem.W.Frag → Sp} (hn : l.most = some 63) (hdf : d.params.defaults = [])
    (hr : Room k callerA) (hY : ∀ (w : World) (h : Heap), YP w h → (K w.params).In h)
    (F : ∀ (w : World) (mg : Str → Option Value) (fa : Addr) (h : Heap), (K w.params).In h → h.Ns mainGlobals mg → mg d.name = some (.ref fa) →
      ∃ fd : FuncData, (∀ (s : Shared) (u : Value), BindsTo s fd ⟨[u], []⟩ [("script", u)]) ∧
        ∀ base : Heap, (K w.params).In base → base.Ns mainGlobals mg → FnG l.prog w (K w.params) mg base CX0 k fa fd ["script"] (sp (K w.params)))
    (hsp : ∀ (K : PySem.W.Frag) (H : Hp) (a : Addr) (ns : List Int), ns.length ≤ 63 → SqL K H a (ns.map V.int) → sp K [.ref a] H (fun v _ => v = .bl true) fun _ _ _ => False) :
    PySem.W.WalkO q loose XP YP l.row.toRowW d [] (fun f vs => PySem.call f vs) := by
  refine Att.attach_callB hn hdf fun w s₀ s₁ mg mb fa o pm cd doc a vs ns G Y ho hd hcd hmg hobj hints hlen hbits hg => ?_
  have KX := hY w _ Y
  obtain ⟨fd, hb, hF⟩ := F w mg fa _ KX G.T.g hmg
  exact lawG KX G.T.g G.T.b G.T.builtins G.T.nolimit hg hobj hints (Nat.le_trans hlen (by decide)) hr hF hb fun H hS => hsp (K w.params) H a ns hlen hS
end
/-! ### more rules of my own: repr of data, count, != of lists, tuple * n -/
section
variable {X : Cx}
/-- data that repr shows: as Dp says, or a dict that is empty -/
def Rp (K : PySem.W.Frag) (H : Hp) (v : V) (d : PyData) : Prop := Dp K H v d ∨ ∃ (a : Addr), v = .ref a ∧ H a = some (.dK []) ∧ d = .dict []
mutual
theorem dp_noDict {K : PySem.W.Frag} {H : Hp} : ∀ (d : PyData) (v : V), Dp K H v d → d.hasDict = false
  | .none, _, _ => rfl
  | .bool _, _, _ => rfl
  | .int _, _, _ => rfl
  | .str _, _, _ => rfl
  | .list ds, _, h => by
    cases h with
    | lst _ ha => exact dp_noDictAll ds _ ha
  | .tuple ds, _, h => by
    cases h with
    | tup _ ha => exact dp_noDictAll ds _ ha
  | .dict _, _, h => by cases h
theorem dp_noDictAll {K : PySem.W.Frag} {H : Hp} : ∀ (ds : List PyData) (vs : List V), DpAll K H vs ds → PyData.hasDictAll ds = false
  | [], _, _ => rfl
  | d :: ds, _, h => by
    cases h with
    | cons h1 h2 =>
      show (d.hasDict || PyData.hasDictAll ds) = false
      rw [dp_noDict d _ h1, dp_noDictAll ds _ h2]
      rfl
end
theorem Rp.reads {pins : List (Addr × Obj)} {σ : L2.St} {H : Hp} {s : Shared} (I : L2.Inv X pins σ H s) {v : V} {u : Value} {d : PyData} (h : Rp X.K H v d) (r : RelV v u) : ∃ as, Reads s.heap u d as ∧ (d.hasDict = true → sysModules ∉ as) := by
  rcases h with h | ⟨a, rfl, e, rfl⟩
  · obtain ⟨as, hr⟩ := Dp.reads I d v u h r
    refine ⟨as, hr, fun z => ?_⟩
    rw [dp_noDict d v h] at z
    cases z
  · cases r
    obtain ⟨_, hs, vs, kv, o, es, ep, h1, h2, h3, _, h5, _⟩ := (show ObjOk X.prog X.w H s.heap a (.dK []) from I.hok a _ e)
    cases kv
    cases hes : es.toList with
    | cons x xs =>
      rw [hes] at h5
      cases h5
    | nil =>
      refine ⟨_, Reads.dict (kvs := []) h1 h2.1 h3 (as := []) (bs := []) ?_ ?_, fun _ z => ?_⟩
      · rw [hes]
        exact .nil
      · rw [hes]
        exact .nil
      · rcases List.mem_cons.mp z with z | z
        · rw [z] at hs
          simp at hs
        · cases z
def okD (d : PyData) : Bool := d.showable && decide (d.depth ≤ 50) && decide (d.shown.length ≤ 100000) && PyData.strOk d.shown
theorem call_reprW (hg : X.A.guards = some []) (hu : X.A.units + 64 < cLine) : CallR X (.builtin "repr") (fun xs H Q => ∃ v d, xs = [v] ∧ Rp X.K H v d ∧ (d.showable = true ∧ d.depth ≤ 50 ∧ d.shown.length ≤ 100000) ∧ Q (.str d.shown) H) := by
  intro pins s σ H xs us Q I r h
  obtain ⟨v, d, rfl, hd, ho, q⟩ := h
  obtain ⟨u, rfl, ru⟩ := vals1 r
  obtain ⟨h1, h2, h3⟩ := ho
  obtain ⟨as, hr, hm⟩ := hd.reads I ru
  have fin : ∀ (h' : Heap) (t : Tok) (tk : Nat), (∀ b o, s.heap.get? b = some o → h'.get? b = some o) → EP X pins σ Q (.str d.shown t) { s with heap := h', toks := tk } := fun h' t tk kp =>
    ⟨.str d.shown, H, I.kept (t' := tk) kp, ⟨t, rfl⟩, q⟩
  have hsz : d.shown.length ≤ sizeLine := Nat.le_trans h3 (by decide)
  cases v with
  | ref a =>
    cases ru
    exact repr_of_reads' hr h1 hm hg (by omega) (fun b o e => e) (fun h' t tk kp => fin h' t tk kp) hsz
  | non =>
    cases ru
    cases hr
    exact PySem.P.repr_of_none (fin s.heap _ _ fun b o e => e)
  | bl b =>
    cases ru
    cases hr
    exact PySem.P.repr_of_bool (fin s.heap _ _ fun b o e => e)
  | int i =>
    obtain ⟨t, rfl⟩ := ru
    cases hr
    exact PySem.P.repr_of_int (by simpa [PyData.showable] using h1) (fin s.heap _ _ fun b o e => e)
  | str z =>
    obtain ⟨t, rfl⟩ := ru
    cases hr
    exact PySem.P.repr_of_str (fin s.heap _ _ fun b o e => e) hsz
  | byt b =>
    obtain ⟨t, rfl⟩ := ru
    cases hr
  | flt b =>
    obtain ⟨t, rfl⟩ := ru
    cases hr
  | ty n =>
    cases ru
    cases hr
theorem okD_w {d : PyData} (ho : okD d = true) : d.showable = true ∧ d.depth ≤ 50 ∧ d.shown.length ≤ 100000 := by
  unfold okD at ho
  simp only [Bool.and_eq_true, decide_eq_true_eq] at ho
  obtain ⟨⟨⟨h1, h2⟩, h3⟩, _⟩ := ho
  exact ⟨h1, h2, h3⟩
theorem call_reprD (hg : X.A.guards = some []) (hu : X.A.units + 64 < cLine) : CallR X (.builtin "repr") (fun xs H Q => ∃ v d, xs = [v] ∧ Rp X.K H v d ∧ okD d = true ∧ Q (.str d.shown) H) := by
  intro pins s σ H xs us Q I r h
  obtain ⟨v, d, e, hd, ho, q⟩ := h
  exact call_reprW hg hu pins s σ H xs us Q I r ⟨v, d, e, hd, okD_w ho, q⟩
/-- xs.count(y), flat things -/
def rCnt (K : PySem.W.Frag) : V → List V → Hp → VK → Prop := fun x xs H Q => ∃ (a : Addr) (ys : List V) (y : V), x = .ref a ∧ xs = [y] ∧ SqL K H a ys ∧ flatV y = true ∧ ys.all flatV = true ∧ Q (.int (ys.countP (eqV · y) : Nat)) H
theorem countP_eqU {x : V} : ∀ {xs : List V} {us : List Value}, Vals xs us → xs.all flatV = true → us.countP (eqU x) = xs.countP fun y => eqV y x
  | _, _, .nil, _ => rfl
  | y :: xs, u :: us, .cons r t, f => by
    rw [List.all_cons, Bool.and_eq_true] at f
    rw [List.countP_cons, List.countP_cons, eqU_of r f.1, countP_eqU t f.2]
theorem mt_count : MtR X "list.count" (rCnt X.K) := by
  intro pins s σ H x xs v us Q I rx rxs h
  obtain ⟨a, ys, y, rfl, rfl, hs, fy, fys, q⟩ := h
  cases rx
  obtain ⟨u, rfl, ru⟩ := rxs.one
  obtain ⟨its, rv, ⟨⟨cls, dd, data, sl⟩, n, ho, hc, hdn, hd⟩, hlen⟩ := I.list hs
  simp only at hc hd
  subst hc hd
  have cnt := SeqAt.list_countAt a its.toArray n dd sl u (eqU y)
  refine call_meets PySem.F.slot_list_count ⟨_, ho, rfl⟩ PySem.F.entry_list_count (PySem.F.args_list_count_2 _ _) cnt ?_
  refine ⟨ho, fun z hz => mem_eqAt ru fy rv fys z (by simpa using hz), ?_⟩
  refine ⟨.int (ys.countP (eqV · y) : Nat), H, I.tok _, ⟨s.toks, ?_⟩, q⟩
  rw [← countP_eqU rv fys]
end
/-! ### a tuple, once or not at all -/
section
/-- t * 1: t itself -/
theorem mul_one (l : Addr) (items : Array Value) (n : Nat) (dd : Option Addr) (sl : Array (Option Value)) (u : Tok) (c2 : items.isEmpty = false) :
    Meets (Builtin.«tuple.__mul__» ⟨[.ref l, .int 1 u], []⟩) (fun _ R s => s.heap.get? l = some { cls := .type "tuple", dict := dd, data := .seq items n, slots := sl } ∧ R (.ok (.ret (Value.ref l))) s) :=
  .of_wp fun prog w A R s h => by
    obtain ⟨hp, g, d, tk, os⟩ := s
    obtain ⟨hl, h⟩ := h
    have f1 := AutoSeq1.idx_int
    wp_walk using wpAny_loadPart' hl
    exact ⟨_, rfl, h⟩
/-- t * 0: an empty tuple -/
theorem mul_zero (l : Addr) (items : Array Value) (n : Nat) (dd : Option Addr) (sl : Array (Option Value)) (u : Tok) (c2 : items.isEmpty = false) :
    Meets (Builtin.«tuple.__mul__» ⟨[.ref l, .int 0 u], []⟩) (fun _ R s => s.heap.get? l = some { cls := .type "tuple", dict := dd, data := .seq items n, slots := sl } ∧
      R (.ok (.ret (Value.ref s.heap.objs.size))) { s with heap := s.heap.push { cls := Value.type "tuple", data := Data.seq #[] } }) :=
  .of_wp fun prog w A R s h => by
    obtain ⟨hp, g, d, tk, os⟩ := s
    obtain ⟨hl, h⟩ := h
    have f1 := AutoSeq1.idx_int
    wp_walk using wpAny_loadPart' hl
    exact ⟨_, rfl, h⟩
/-- t * k, k from 0 to 3: some tuple of that -/
def rRep3 (K : PySem.W.Frag) : V → V → Hp → VK → Prop := fun x y H Q => ∃ (l : Addr) (k : Int) (xs : List V), x = .ref l ∧ y = .int k ∧ SqT K H l xs ∧ H l = some (.tup xs) ∧ xs ≠ [] ∧ 0 ≤ k ∧ k ≤ 3 ∧ xs.length ≤ 1000 ∧
  ∀ p H', (∀ b o, H b = some o → H' b = some o) → H' p = some (.tup (List.replicate k.toNat xs).flatten) → Q (.ref p) H'
theorem op_rep3 {X : Cx} : OpR X (binaryOp .Mult) (rRep3 X.K) := by
  intro pins s σ H x y v u Q I rx ry h
  obtain ⟨l, k, xs, rfl, rfl, hT, eT, hne, h0, h3, hz, q⟩ := h
  by_cases hk : 2 ≤ k
  · refine op_repT pins s σ H _ _ v u Q I rx ry ⟨l, k, xs, rfl, rfl, hT, hne, hk, by omega, hz, fun p hp => q p _ (fun b o e => ?_) upd_same⟩
    rw [upd_ne (ne_of_none e hp)]
    exact e
  cases rx
  obtain ⟨t, rfl⟩ := ry
  obtain ⟨its, r, ⟨⟨cls, dd, data, sl⟩, ho, hc, n, hd⟩, hs⟩ := I.tuple hT
  simp only at hc hd
  subst hc hd
  have hi : its.toArray.isEmpty = false := by
    cases r with
    | nil => exact absurd rfl hne
    | cons a b => rfl
  have ty : s.TypeIs (.ref l) "tuple" := ⟨_, ho, rfl⟩
  have key : ∀ (i : Int), k = i → wpAny (model X.prog X.w) X.A (call (.builtin "tuple.__mul__") [.ref l, .int i t]) (EP X pins σ Q) X.xe s → wpAny (model X.prog X.w) X.A (binaryOp .Mult (.ref l) (.int k t)) (EP X pins σ Q) X.xe s := by
    rintro i rfl hq
    refine wpAny_binaryOp_repeat_ref (T := "tuple") (U := "int") (by decide) ty (fun s' => typeIs_int s' k t) noFill_tuple_mul F.fills_int_mul F.slot_int_rmul repeat_tuple F.slot_int_index.lookup ?_
    exact call_meets F.slot_int_rmul (typeIs_int s k t) F.entry_int_rmul (F.args_int_rmul_2 _ _) (int_rmul_tuple k t l its.toArray n dd sl) ⟨ho, rfl, ty, hq⟩
  have k01 : k = 0 ∨ k = 1 := by omega
  rcases k01 with rfl | rfl
  · refine key 0 rfl (call_meets F.slot_tuple_mul ty F.entry_tuple_mul (F.args_tuple_mul_2 _ _) (mul_zero l its.toArray n dd sl t hi) ⟨ho, ?_⟩)
    have I1 := I.laid (t' := s.toks) (a := s.heap.objs.size) (o := .tup []) (h' := s.heap.push { cls := Value.type "tuple", data := Data.seq #[] }) (fun _ _ q => Heap.get?_push_of_some _ q) (Nat.le_refl _)
      ⟨Nat.zero_le _, [], .nil, _, Heap.get?_push_at rfl rfl, rfl, _, rfl⟩
    have hn := I.hok.fresh (Nat.le_refl s.heap.objs.size)
    exact ⟨.ref s.heap.objs.size, _, I1, rfl, q _ _ (fun b o e => by rw [upd_ne (ne_of_none e hn)]; exact e) upd_same⟩
  · refine key 1 rfl (call_meets F.slot_tuple_mul ty F.entry_tuple_mul (F.args_tuple_mul_2 _ _) (mul_one l its.toArray n dd sl t hi) ⟨ho, ?_⟩)
    refine ⟨.ref l, H, I, rfl, q l H (fun b o e => e) ?_⟩
    rw [eT]
    simp
end
/-! ### data stays data; texts of ints -/
mutual
theorem dp_same {K : PySem.W.Frag} {H H' : Hp} (s : Same H H') : ∀ (d : PyData) (v : V), Dp K H v d → Dp K H' v d
  | .none, _, h => by cases h; exact .non
  | .bool _, _, h => by cases h; exact .bl _
  | .int _, _, h => by cases h; exact .int _
  | .str _, _, h => by cases h; exact .str _
  | .list ds, _, h => by
    cases h with
    | lst q ha => exact .lst (s.seq q) (dp_sameAll s ds _ ha)
  | .tuple ds, _, h => by
    cases h with
    | tup q ha =>
      refine .tup ?_ (dp_sameAll s ds _ ha)
      rcases q with (q | ⟨o, q⟩) | q
      · exact .inl (.inl (s _ _ q))
      · exact .inl (.inr ⟨o, s _ _ q⟩)
      · exact .inr q
  | .dict _, _, h => by cases h
theorem dp_sameAll {K : PySem.W.Frag} {H H' : Hp} (s : Same H H') : ∀ (ds : List PyData) (vs : List V), DpAll K H vs ds → DpAll K H' vs ds
  | [], _, h => by cases h; exact .nil
  | d :: ds, _, h => by
    cases h with
    | cons h1 h2 => exact .cons (dp_same s d _ h1) (dp_sameAll s ds _ h2)
end
theorem rp_same {K : PySem.W.Frag} {H H' : Hp} {v : V} {d : PyData} (h : Rp K H v d) (s : Same H H') : Rp K H' v d := by
  rcases h with h | ⟨a, rfl, e, rfl⟩
  · exact .inl (dp_same s d v h)
  · exact .inr ⟨a, rfl, s _ _ e, rfl⟩
theorem char_lt (c : Char) : c.toNat < 1114112 := by
  have h := c.valid
  have e : c.toNat = c.val.toNat := rfl
  rcases h with h | ⟨_, h⟩
  · rw [e]
    exact Nat.lt_trans h (by decide)
  · rw [e]
    exact h
theorem strOk_of (s : String) : PyData.strOk (Str.ofString s) = true := by
  unfold PyData.strOk
  rw [PySem.Str.ofString_eq_toList]
  show (List.map Char.toNat s.toList).toArray.all (fun x => decide (x < 1114112)) = true
  rw [Array.all_eq_true']
  intro x hx
  have hx2 : x ∈ List.map Char.toNat s.toList := by simpa using hx
  obtain ⟨c, _, rfl⟩ := List.mem_map.mp hx2
  exact decide_eq_true (char_lt c)
theorem okD_int {i : Int} (h : i.natAbs < 10 ^ 40) : okD (.int i) = true := by
  have h1 : i.natAbs < 2 ^ 140 := Nat.lt_of_lt_of_le h (by decide)
  have h2 : i.natAbs.log2 < 1920 := Nat.lt_trans (PySem.Flt.log2_lt_of (by decide) h1) (by decide)
  have h3 := int_text_length_le10 (k := 40) (by decide) h
  have e1 : PyData.showable (.int i) = true := decide_eq_true h2
  have e2 : PyData.shown (.int i) = Str.ofString (toString i) := rfl
  have e3 : (Str.ofString (toString i)).length ≤ 100000 := by
    rw [PySem.ofString_length]
    omega
  unfold okD
  rw [e1, e2, strOk_of, decide_eq_true e3]
  rfl
/-! ### try: .. except A as n: .. except B as m: .. -/
/-- what such clauses wish of an exception of the body; i, the slot of the clause's name -/
def wManyA (K : PySem.W.Frag) (Wout : WX) (D : Ends) : List (Value × Nat × (Addr → Value → Option Addr → TS)) → WX
  | [] => Wout
  | (c, i, ts) :: r => fun cls d σ H => ∃ b, PySem.W.exmOne K cls c = some b ∧
      (b = true → ∀ a, H a = none → ts a cls d { nx := fun σ' H' => D.nx (σ'.set i none) H', rt := D.rt, bk := fun σ' H' => D.bk (σ'.set i none) H', ct := fun σ' H' => D.ct (σ'.set i none) H' } (σ.set i (some (.ref a))) H) ∧
      (b = false → wManyA K Wout D r cls d σ H)
inductive HdsAs (X : Cx) : List ExceptHandler → List (Value × Nat × (Addr → Value → Option Addr → TS)) → Prop
  | nil : HdsAs X [] []
  | cons {x n : Str} {i : Nat} {c : Value} {ts : Addr → Value → Option Addr → TS} {b₀ : Stmt} {suite : List Stmt} {np pos' : Pos} {hds : List ExceptHandler} {l : List (Value × Nat × (Addr → Value → Option Addr → TS))}
      (hc : Names X x c) (hi : X.N[i]? = some n) (hln : X.env.kindOf n = some .local)
      (hsu : ∀ (a : Addr) (oe : Obj) (cls : Value) (d : Option Addr) (pn : List (Addr × Obj)), Zc cls d oe → (∃ vs, oe.data = .fields vs) → PSs (X.suite a ((a, oe) :: pn)) (b₀ :: suite) (ts a cls d))
      (r : HdsAs X hds l) : HdsAs X (.ExceptHandler (some (.Name x np)) (some n) (b₀ :: suite) pos' :: hds) ((c, i, ts) :: l)
section
variable {X : Cx} {body : List Stmt} {h₀ : ExceptHandler} {hds : List ExceptHandler} {l : List (Value × Nat × (Addr → Value → Option Addr → TS))} {pos : Pos} {tb : WX → TS} {Wout : WX}
theorem ps_try_manyA (hs : X.stack = X.env :: X.outer) (hf : X.env.frame = some X.env.locals) (hN : X.N.Nodup) (tk : Takes X Wout)
    (hb : ∀ (W : WX) (pn : List (Addr × Obj)) (xe : Value → Shared → Prop), Takes (X.tr pn xe) W → PassesOwn (model X.prog X.w) X.A X.env xe → PSs (X.tr pn xe) body (tb W))
    (hh : HdsAs X (h₀ :: hds) l) : PS X (.Try body (h₀ :: hds) [] [] pos) (fun D σ H => tb (wManyA X.K Wout D l) D σ H) := by
  constructor
  intro pins s σ H D I h
  have ok := I.ok
  have hfr : X.A.frames = some (X.env :: X.outer) := by
    rw [ok.frames, hs]
  apply wpAny_Try_except
  let xe1 : Value → Shared → Prop := fun e s₁ => wpAny (model X.prog X.w) X.A (noteFrame e X.env)
    (fun _ s₂ => wpAny (model X.prog X.w) X.A (setFlight e none)
      (fun _ s₃ => wpAny (model X.prog X.w) X.A (handleBy e X.env (h₀ :: hds)) (SP X pins D) X.xe s₃) X.xe s₂) X.xe s₁
  refine wpAny_mono ((hb (wManyA X.K Wout D l) (X.pn ++ pins) xe1 (fun u s' xx => ?_) PassesOwn.looking).run [] s σ H D (I.toTry _) h) (fun f s1 hsp => ?_) (fun e s1 he => he)
  · obtain ⟨a, B, sI, pins', σ', H', cls, d, rfl, J', nb, up, sky, na, os, ag, w⟩ := xx
    have J : Inv X pins σ' H' sI := J'.ofTry ok
    have sky' : Sky B (X.env :: X.outer) a (Zc cls d) X.env.locals s'.heap := by
      rw [← hs]
      exact sky
    show wpAny (model X.prog X.w) X.A (noteFrame (.ref a) X.env) _ _ _
    refine Sky.land Zc.steady hfr hf sky' fun h3 fl3 up3 => ?_
    have J3 : Inv X pins σ' H' { s' with heap := h3 } := J.landed nb fl3.1 (up.trans up3) os ag
    obtain ⟨oe3, vs3, he3, hz3, hd3⟩ := fl3.there
    have nfr : a ∉ frs (X.env :: X.outer) := fun hm => by
      obtain ⟨_, o', e', hnf⟩ := fl3.2.2.1.mem hm
      rw [he3] at e'
      cases e'
      exact hnf _ hd3
    have nL : a ≠ X.env.locals := fun z =>
      nfr (List.mem_filterMap.mpr ⟨X.env, List.mem_cons_self, by rw [hf, z]⟩)
    have nF : a ∉ X.fs := fun hm => by
      obtain ⟨e, he, q⟩ := List.mem_filterMap.mp hm
      exact nfr (List.mem_filterMap.mpr ⟨e, List.mem_cons_of_mem _ he, q⟩)
    have S3 := J3.suite he3 hd3 na nL nF
    -- one clause after the other
    have go : ∀ (hds : List ExceptHandler) (l : List (Value × Nat × (Addr → Value → Option Addr → TS))), HdsAs X hds l → wManyA X.K Wout D l cls d σ' H' →
        wpAny (model X.prog X.w) X.A (handleBy (.ref a) X.env hds) (SP X pins D) X.xe { s' with heap := h3 } := by
      intro hds l hh
      induction hh with
      | nil =>
        intro w
        apply wpAny_handleBy_nil
        obtain ⟨k1, k2, k3, oe, vs, T, oT, ts', he, hz, hd, h1, hr⟩ := id fl3
        unfold PySem.passOn
        refine wpAny_bind (wpAny_field he hd h1 ?_)
        rw [if_neg (show ¬ ((Value.ref T == Value.none) = true) from by simp)]
        have fin : wpAny (model X.prog X.w) X.A (setFlight (.ref a) X.env.frame)
            (fun _ s4 => wpAny (model X.prog X.w) X.A (throw (.ref a) : Sem Flow) (SP X pins D) X.xe s4) X.xe { s' with heap := h3 } := by
          rw [hf]
          refine HandSPX.setFlight_upZ fl3 fun h4 hh4 up4 => wpAny_throw (tk _ _ ?_)
          refine ⟨a, B, sI, pins, σ', H', cls, d, rfl, J, nb, (up.trans up3).trans up4, .inr (.inr ?_), na, os, ag, w⟩
          rw [hs]
          exact hh4
        first
          | exact wpAny_bind (wpAny_pure (wpAny_bind fin))
          | exact wpAny_bind fin
      | @cons x n i c ts b₀ suite np pos' hds l hc hi hln hsu r ih =>
        rintro ⟨b, hb1, hyes, hno⟩
        have hloc : Loc X.env.scope n := .inl hln
        refine wpAny_handleBy_cons (codeAny_handlers_test ?_) (by intro q; cases q)
        have l1 : PySem.W.Looks (model X.prog X.w) h3 (typeOf (.ref a)) cls := fun A Q E s k q =>
          wpAny_typeOf_ref (k _ _ he3) (by rw [hz3.1]; exact q)
        have l2 := PySem.W.exm_one (M := model X.prog X.w) (J3.kIn) l1 hb1
        have test : ∀ {Q : Value → Shared → Prop} {E : Value → Shared → Prop}, Q c { s' with heap := h3 } →
            wpAny (model X.prog X.w) (X.A.mark (some (.ref a))) (eval (.Name x np) X.env) Q E { s' with heap := h3 } := fun {Q E} q => by
          obtain ⟨hg, hdbg, hm | ⟨hm, hv, hnn⟩⟩ := hc
          · exact ld_glob (X := X.suite a ((a, oe3) :: (X.pn ++ pins))) S3 hg hm q hdbg
          · exact ld_blt (X := X.suite a ((a, oe3) :: (X.pn ++ pins))) S3 hg hm hv q hnn hdbg
        refine test (l2.here ?_)
        cases b with
        | false => exact ih (hno rfl)
        | true =>
          apply codeAny_handlers_suite_as
          refine HandSPX.lands_againZ fl3 fun h4 fl4 up4 => ?_
          have J4 : Inv X pins σ' H' { s' with heap := h4 } := J.landed nb fl4.1 ((up.trans up3).trans up4) os ag
          obtain ⟨oe4, vs4, he4, hz4, hd4⟩ := fl4.there
          have S4 := J4.suite he4 hd4 na nL nF
          refine store_ok (X := X.suite a ((a, oe4) :: (X.pn ++ pins))) (v := .ref a) S4 hN hi hloc rfl (fun s5 S5 => ?_) (.inr hln)
          have run := (hsu a oe4 cls d (X.pn ++ pins) hz4 ⟨_, hd4⟩).run [] s5 _ H' _ S5 (hyes rfl a na)
          refine wpAny_mono run (fun f s6 hsp => ?_) (fun _ _ z => False.elim z)
          have gone : ∀ {σ6 : L2.St} {H6 : Hp} {Q : Shared → Prop}, Inv (X.suite a ((a, oe4) :: (X.pn ++ pins))) [] σ6 H6 s6 → (∀ s7, Inv X pins (σ6.set i none) H6 s7 → Q s7) →
              wpAny (model X.prog X.w) X.A (do bindName X.env n .none; unbindBehindTheSuite X.env n pos') (fun _ s7 => Q s7) X.xe s6 := fun {σ6 H6 Q} S6 hq =>
            gone_ok (S6.unsuite ok) hN hi hln hq
          cases f with
          | next =>
            obtain ⟨σ6, H6, S6, q6⟩ := hsp
            exact gone S6 fun s7 J7 => ⟨_, _, J7, q6⟩
          | brk =>
            obtain ⟨σ6, H6, S6, q6⟩ := hsp
            exact gone S6 fun s7 J7 => ⟨_, _, J7, q6⟩
          | cont =>
            obtain ⟨σ6, H6, S6, q6⟩ := hsp
            exact gone S6 fun s7 J7 => ⟨_, _, J7, q6⟩
          | ret u =>
            obtain ⟨v6, σ6, H6, S6, r6, q6⟩ := hsp
            exact gone S6 fun s7 J7 => ⟨_, _, _, J7, r6, q6⟩
    exact go _ _ hh w
  · cases f with
    | next =>
      obtain ⟨σ', H', J', q⟩ := hsp
      exact wpAny_execs_nil ⟨σ', H', J'.ofTry ok, q⟩
    | brk =>
      obtain ⟨σ', H', J', q⟩ := hsp
      exact ⟨σ', H', J'.ofTry ok, q⟩
    | cont =>
      obtain ⟨σ', H', J', q⟩ := hsp
      exact ⟨σ', H', J'.ofTry ok, q⟩
    | ret u =>
      obtain ⟨v, σ', H', J', r, q⟩ := hsp
      exact ⟨v, σ', H', J'.ofTry ok, r, q⟩
end
/-! ### defs called within an except suite, about the error that is caught -/
/-- a def's promise there; p, the error that is caught and its object -/
structure FnP (P : Program) (w : World) (K : PySem.W.Frag) (mg : Str → Option Value) (base : Heap) (k : Nat) (f : Addr) (fd : FuncData) (ps : List Str) (sp : Addr × Obj → Sp) : Prop where
  len : ∀ p vs H Q E, sp p vs H Q E → vs.length = ps.length
  run : ∀ (A : Around) (outer : List Env) (s : Shared) (H : Hp) (args : Args) (us : List Value) (vs : List V) (Q : VK) (E : XK) (p : Addr × Obj), L2H.RoomH k A → L2H.PinOk outer H s p → Env0 P w K mg base A outer s H →
    BindsTo s fd args (ps.zip us) → Vals vs us → sp p vs H Q E → codeAny (model P w) A (.call (.ref f) args) (CR CX0 outer P w H s Q E) s
theorem fnP_ok {P : Program} {w : World} {K : PySem.W.Frag} {mg : Str → Option Value} {base : Heap} {k : Nat} {x qual : Str} {st : Stmt} {f : Addr} {fd : FuncData} {N ps : List Str} {sp : Addr × Obj → Sp} (F : Fun K x qual st f fd) (S : FnScope N ps (defScope st))
    (len : ∀ p vs H Q E, sp p vs H Q E → vs.length = ps.length)
    (body : ∀ (cdv : Value) (A : Around) (outer : List Env) (s : Shared) (H : Hp) (vs : List V) (Q : VK) (E : XK) (p : Addr × Obj), L2H.RoomH k (A.deeper (PyProof.Rows.envOfC qual (defScope st) s.heap.objs.size f cdv)) → sp p vs H Q E →
      ∃ t, PSs (L2H.cxH CX0 P w K mg base N qual (defScope st) f cdv A outer s H E p).nox (defBody st) t ∧ t { nx := fun _ H' => Q .non H', rt := Q } (L2.start N vs) H) :
    FnP P w K mg base (k + 1) f fd ps sp := by
  obtain ⟨oc, od, kV, doc, pm, an, cdv, ct, osl, rfl, lk, hcd⟩ := F.ex
  constructor
  · exact len
  intro A outer s H args us vs Q E p hr hpin e0 hb r hsp
  have hl := len _ _ _ _ _ hsp
  have old : ∀ b o, base.get? b = some o → s.heap.get? b = some o := fun b o e => (e0.bs b o e).1
  have KX : K.In s.heap := e0.mod.kin.keeps old
  have kinds : ∀ y ∈ ps.zip us, (defScope st).names.lookup y.1 = some .local ∨
      ((defScope st).names.lookup y.1 = some .cell ∧ ((cellsFrom (s.heap.objs.size + 1) (defScope st).names []).lookup y.1).isSome = true) := by
    rintro ⟨n, v⟩ hy
    have q := S.par n (List.of_mem_zip hy).1
    refine q.imp id fun q => ⟨q, ?_⟩
    exact PySem.W.cellsFrom_some _ _ _ (.inl q)
  refine codeAny_call_function hr.depth (KX _ _ lk) rfl S.co S.gen rfl (PySem.W.codeRec_of KX hcd) (hb _ _ _ _ ?_)
  refine wpAny_newFunctionEnv_cells S.kind kinds fun env he s1 z => ?_
  subst he
  refine ⟨(e0.mod.nolimit.keeps old).keeps z.toInCall.keep, PySem.codeAny_func ?_⟩
  obtain ⟨t, ht, hq⟩ := body cdv A outer s H vs Q E p (hr.deeper _) hsp
  have I := L2H.inv_startH (CX := CX0) (E := E) (cd := cdv) (f := f) S hpin e0 hl r z
  refine wpAny_mono (ht.nox.run [] s1 (L2.start N vs) H _ I hq) (fun fl s' hs => ?_) fun e s' hs => hs
  cases fl with
  | ret u =>
    obtain ⟨v, σ', H', J, rv, q⟩ := hs
    exact ⟨v, H', J.os, J.bare, J.base, J.hok, rv, q⟩
  | next =>
    obtain ⟨σ', H', J, q⟩ := hs
    exact ⟨V.non, H', J.os, J.bare, J.base, J.hok, rfl, q⟩
  | brk => exact hs.choose_spec.choose_spec.2.elim
  | cont => exact hs.choose_spec.choose_spec.2.elim
section
variable {X : Cx} {k : Nat} {f : Addr} {fd : FuncData} {ps : List Str} {sp : Addr × Obj → Sp} {x : Str} {q pos : Pos} {e : Expr} {es : List Expr} {t : TA}
/-- f(e, ..) within the suite -/
theorem pe_callP {p : Addr × Obj} {spr : Sp} (imp : ∀ vs H Q E, spr vs H Q E → sp p vs H Q E) (F : FnP X.prog X.w X.K X.mg X.base k f fd ps sp) (hr : L2H.RoomH k X.A) (hp : p ∈ X.pn) (hg : Gl X x) (hm : X.mg x = some (.ref f)) (hk : PySem.W.keepIn X.K (.ref f) = true) (hb : L2.Binds X.K fd ps []) (ha : PA X (e :: es) t)
    (hdb : (x == ("__debug__" : Str)) = false := by decide) (he : starEach (e :: es) X.env = (false, eval e X.env) :: starEach es X.env := by rfl) (hpl : (backTo pos (starEach es X.env)).any (·.1) = false := by rfl) :
    PE X (.Call (.Name x q) (e :: es) [] pos) (fun σ H Q => t σ H fun vs H1 => spr vs H1 Q E0) := by
  constructor
  intro pins s σ H Q I h
  refine wpAny_Call_Name_kw (ld_glob I hg hm ?_ hdb)
  refine PySem.W.callWith_K (h₀ := X.base) I.ok.mod.kin hk (thn (ha.run pos pins s σ H _ I h) fun us s1 ⟨vs, H1, I1, r, hq0⟩ => ⟨I1.kIn, ?_⟩) he hpl
  have hq := imp _ _ _ _ hq0
  have hl : us.length = ps.length := by
    rw [← r.length]
    exact F.len _ _ _ _ _ hq
  have b := hb s1 us I1.kIn (by rw [List.append_nil]; exact hl)
  rw [List.append_nil] at b
  have P1 := I1.pin p (List.mem_append_left _ hp)
  have hpin : L2H.PinOk X.stack H1 s1 p := ⟨P1.1, P1.2.1, fun hm => (List.mem_cons.mp (I1.stkSub p.1 hm)).elim P1.2.2.1 P1.2.2.2.1, P1.2.2.2.2⟩
  refine wpAny_call (codeAny_mono (F.run X.A X.stack s1 H1 ⟨us, []⟩ us vs Q E0 p hr hpin I1.env0 b r hq) fun r s' hq' => ?_)
  cases r with
  | error er => exact False.elim hq'
  | ok fl =>
    cases fl with
    | ret u => exact I1.after hq'
    | next => exact False.elim hq'
    | brk => exact False.elim hq'
    | cont => exact False.elim hq'
/-- isinstance(e, c), e the error that is caught -/
def rIsP (K : PySem.W.Frag) (p : Addr × Obj) : List V → Hp → VK → Prop := fun xs H Q => ∃ (C : Addr) (c : V) (u : Value) (b : Bool), xs = [.ref p.1, c] ∧ p.2.cls = .ref C ∧ (∃ vs, p.2.data = .fields vs) ∧ ExcC K C ∧
  (p.2.dict = none ∨ ∃ dd fs, p.2.dict = some dd ∧ H dd = some (.xd fs)) ∧ ClsV c u ∧ PySem.W.kitOne K (.ref C) u = some b ∧ Q (.bl b) H
theorem call_isP {p : Addr × Obj} (hp : p ∈ X.pn) : CallR X (.builtin "isinstance") (rIsP X.K p) := by
  intro pins s σ H xs us Q I r h
  obtain ⟨C, c, u, b, rfl, h1, ⟨vs, h2⟩, hc, hd, k, e, q⟩ := h
  obtain ⟨u1, u2, rfl, r1, r2⟩ := vals2 r
  have e2 := k.eq r2
  subst e2
  cases r1
  have P1 := I.pin p (List.mem_append_left _ hp)
  have ok : ∀ {od : Option Obj}, PySem.W.findObj X.K C od "__class__" = some (.bind (.builtin "getset_descriptor.__get__") (.builtin "object.__class__")) := fun {od} => by
    obtain ⟨cd, hcd, _⟩ := PySem.W.any_some hc.hd
    have hs : (PySem.W.clsIn X.K C).isSome = true := by
      rw [hcd]
      rfl
    cases od with
    | none => exact PySem.W.findObj_dataN hs hc.ha hc.hn hc.ht
    | some o => exact PySem.W.findObj_data hs hc.ha hc.hn hc.ht
  obtain ⟨od, J⟩ : ∃ od, PySem.W.InstAt s.heap p.1 p.2 C od := by
    rcases hd with hd | ⟨dd, fs, hd, ed⟩
    · exact ⟨none, P1.1, h1, by unfold PySem.W.notCls; rw [h2], by rw [hd]; trivial⟩
    · have z : ObjOk X.prog X.w H s.heap dd (.xd fs) := I.hok dd _ ed
      obtain ⟨mA, hns, _⟩ := z
      obtain ⟨o, ho, _⟩ := lookIn_ns hns
      exact ⟨some o, P1.1, h1, by unfold PySem.W.notCls; rw [h2], by rw [hd]; exact ho⟩
  exact PySem.W.kia_one (PySem.W.exk_kit hc.hg hc.hk hc.hs hc.hd ok hc.hm) I.kIn J e (fun z => nomatch z) fun tk => ⟨.bl b, H, I.tok tk, rfl, q⟩
end
/-! ### the pool that a law draws from -/
abbrev sBegin : Stmt := top 28
abbrev sMixed : Stmt := top 29
abbrev sDraw : Stmt := top 30

structure PTxt (mg : Str → Option Value) : Prop where
  int : mg "int" = none
  abs : mg "abs" = none
  len : mg "len" = none
  str : mg "str" = none
  range : mg "range" = none

/-- what stands at p is a pool, whose numbers stand at q -/
def PoolAt (H : Hp) (p q : Addr) : Prop := ∃ (ns : List Int) (i a s b : Int), H p = some (.lst [.ref q, .int i, .int a, .int s, .int b]) ∧ H q = some (.lst (ns.map V.int)) ∧ 0 ≤ i ∧ ∀ n ∈ ns, 0 ≤ n
theorem PoolAt.ne {H : Hp} {p q : Addr} (h : PoolAt H p q) : p ≠ q := by
  obtain ⟨ns, i, a, s, b, h1, h2, _, _⟩ := h
  refine ne_of h1 h2 ?_
  intro e
  injection e with e
  cases ns with
  | nil => cases e
  | cons n r => injection e with e _; cases e
/-- all but the pool is as it was -/
def But (p q : Addr) (H H' : Hp) : Prop := ∀ b o, b ≠ p → b ≠ q → H b = some o → H' b = some o
theorem But.refl (p q : Addr) (H : Hp) : But p q H H := fun _ _ _ _ h => h
theorem But.trans {p q : Addr} {H H1 H2 : Hp} (a : But p q H H1) (b : But p q H1 H2) : But p q H H2 := fun c o n1 n2 h => b c o n1 n2 (a c o n1 n2 h)
theorem But.of_same {p q : Addr} {H H1 : Hp} (a : Same H H1) : But p q H H1 := fun c o _ _ h => a c o h
theorem But.updP {p q : Addr} {H : Hp} {o : HO} : But p q H (upd H p o) := fun c u n1 _ h => by rw [upd_ne n1]; exact h
theorem But.updQ {p q : Addr} {H : Hp} {o : HO} : But p q H (upd H q o) := fun c u _ n2 h => by rw [upd_ne n2]; exact h
theorem PoolAt.same {H H' : Hp} {p q : Addr} (h : PoolAt H p q) (s : Same H H') : PoolAt H' p q := by
  obtain ⟨ns, i, a, z, b, h1, h2, h3⟩ := h
  exact ⟨ns, i, a, z, b, s _ _ h1, s _ _ h2, h3⟩

def spBegin (K : PySem.W.Frag) : Sp := fun vs H Q _ => ∃ (a : Addr) (ns : List Int), vs = [.ref a] ∧ SqL K H a (ns.map V.int) ∧ ns.length ≤ 63 ∧
  ∀ H' p q, Same H H' → H p = none → H q = none → PoolAt H' p q → Q (.ref p) H'
def spMixed : Sp := fun vs H Q _ => ∃ (p q : Addr) (m : Int), vs = [.ref p, .int m] ∧ PoolAt H p q ∧ 1 ≤ m ∧ m < 10 ^ 40 ∧
  ∀ H' (r : Int), But p q H H' → PoolAt H' p q → 0 ≤ r → r < m → Q (.int r) H'
/-- from a pool a number from 0 to m - 1 -/
def spDraw : Sp := fun vs H Q _ => ∃ (p q : Addr) (m : Int), vs = [.ref p, .int m] ∧ PoolAt H p q ∧ 1 ≤ m ∧ m < 10 ^ 40 ∧
  ∀ H' (r : Int), But p q H H' → PoolAt H' p q → 0 ≤ r → r < m → Q (.int r) H'

theorem map_int_get {ns : List Int} {i : Nat} {y : V} (hi : (ns.map V.int)[i]? = some y) : ∃ u, y = V.int u ∧ ns[i]? = some u := by
  rw [List.getElem?_map] at hi
  cases e : ns[i]? with
  | none => rw [e] at hi; cases hi
  | some u => rw [e] at hi; exact ⟨u, (Option.some.inj hi).symm, rfl⟩

section
variable {P : Program} {w : World} {K : PySem.W.Frag} {mg : Str → Option Value} {base : Heap}
theorem scBegin : FnScope ["script", "seed", "cell"] ["script"] (defScope sBegin) := ⟨rfl, rfl, rfl, by decide +kernel, rfl, by decide +kernel, by decide +kernel⟩
theorem ok_begin {f : Addr} {fd : FuncData} (F : Fun K "_law_begin" "_law_begin" sBegin f fd) (T : PTxt mg) : FnOk P w K mg base CX0 1 f fd ["script"] (spBegin K) := by
  refine F.ok scBegin (fun vs H Q E h => ?_) (fun cdv A outer s H vs Q E hr h => ?_)
  · obtain ⟨a, ns, rfl, _⟩ := h
    rfl
  · obtain ⟨a, ns, rfl, hS, hlen, k⟩ := h
    refine ⟨_, pss_cons (ps_set (i := 1) scBegin.nd rfl (.inl rfl) pe_int)
      (pss_cons (ps_for PassesOwn.never rfl (pi_list (pe_slice sl_list (pv 0) po_none (po_some pe_int))) (pg_name (i := 2) scBegin.nd rfl (.inl rfl))
        (pss_one (ps_set (i := 1) scBegin.nd rfl (.inl rfl) (pe_op op_mod (pe_op op_add (pe_op op_add (pe_op op_mul (pv 1) pe_int) (pe_op op_mod (pe_callTy call_int1 (by rfl) T.int (by decide +kernel) (pa_cons (pv 2) pa_nil)) pe_int)) pe_int) pe_int))))
      (pss_one (ps_ret (pe_lst (pa_cons (pe_lc (own := [("cell", 2)]) (g := gName 2) (by rfl) scBegin.nd (pi_list (pv 0)) (blkOk_by (own := [("cell", 2)]) (N := ["script", "seed", "cell"]) (sc := defScope sBegin) (by decide +kernel))
        (fun _ _ _ _ _ => pg_name (i := 2) scBegin.nd rfl (Or.inl rfl)) (fun _ _ _ _ _ => pts_nil)
        (fun _ _ _ _ _ => pe_callB call_abs (by rfl) T.abs (by decide +kernel) (pa_cons (pe_callTy call_int1 (by rfl) T.int (by decide +kernel) (pa_cons (pv 2) pa_nil)) pa_nil)))
        (pa_cons pe_int (pa_cons pe_int (pa_cons (pv 1) (pa_cons pe_int pa_nil))))))))), ?_⟩
    refine ⟨_, rfl, _, rfl, a, _, rfl, hS, fun p hp => ?_⟩
    refine ⟨p, rfl, ⟨_, .inl (.inl upd_same)⟩, for_list (K := K) (a := p) (xs := cutV (ns.map V.int) none (some 40)) (fun i σ H' => ∃ (z : Int) (v : Option V), σ = [some (.ref a), some (.int z), v] ∧ H' = upd H p (.lst (cutV (ns.map V.int) none (some 40)))) 
      ⟨7, none, rfl, rfl⟩ (fun i σ H' _ ⟨_, _, _, e⟩ => by rw [e]; exact .inl (.inl upd_same)) ?_ ?_⟩
    · rintro i y σ H' hi ⟨z, v, rfl, rfl⟩
      obtain ⟨u, rfl⟩ : ∃ u, y = V.int u := by
        have hm := List.mem_of_getElem? hi
        have hm2 := List.mem_of_mem_drop (List.mem_of_mem_take hm)
        obtain ⟨u, _, e⟩ := List.mem_map.mp hm2
        exact ⟨u, e.symm⟩
      refine ⟨_, rfl, _, _, rfl, rfl, .inr ⟨by decide, by decide⟩, _, rfl, .inl ⟨_, rfl, _, _, rfl, rfl, (by show (0 : Int) < 2147483647; decide), _, _, rfl, rfl, _, _, rfl, rfl, _, _, rfl, rfl, (by show (0 : Int) < 2147483647; decide), _, _, rfl, rfl⟩⟩
    · rintro σ H' ⟨z, v, rfl, rfl⟩
      have sp : Same H (upd H p (.lst (cutV (ns.map V.int) none (some 40)))) := fun b o e => by
        rw [upd_ne (ne_of_none e hp)]
        exact e
      refine ⟨_, rfl, a, rfl, ⟨_, sp.seq hS⟩, fun D hD => ?_⟩
      have hS1 := sp.seq hS
      generalize hH1 : upd H p (.lst (cutV (ns.map V.int) none (some 40))) = H1 at *
      have sD : ∀ u, Same H1 (upd H1 D u) := fun u b o e => by
        rw [upd_ne (ne_of_none e hD)]
        exact e
      refine lc_list (K := K) (a := a) (xs := ns.map V.int) (fun i H' => ∃ zs : List Int, H' = upd H1 D (.lst (zs.map V.int)) ∧ zs.length = i ∧ ∀ n ∈ zs, 0 ≤ n) ⟨[], rfl, rfl, fun _ h => nomatch h⟩ (fun i H' _ ⟨zs, e, _⟩ => by rw [e]; exact (sD _).seq hS1) ?_ ?_
      · rintro i y H' hi ⟨zs, rfl, hz, hp0⟩
        obtain ⟨u, rfl, hu⟩ := map_int_get hi
        have hi63 : i < ns.length := (List.getElem?_eq_some_iff.mp hu).1
        refine ⟨rfl, _, rfl, .inl ⟨_, rfl, _, rfl, _, upd_same, ?_, zs ++ [if u < 0 then -u else u], ?_, ?_, ?_⟩⟩
        · rw [List.length_map]
          exact Nat.lt_of_le_of_lt (show zs.length ≤ 63 by omega) (by decide)
        · rw [upd_upd, List.map_append]
          rfl
        · rw [List.length_append, hz]
          rfl
        · intro n hn
          rcases List.mem_append.mp hn with h | h
          · exact hp0 n h
          · rw [List.mem_singleton.mp h]
            split <;> omega
      · rintro H' ⟨zs, rfl, hz, hp0⟩
        refine ⟨_, rfl, (by show 5 ≤ sizeLine; decide), fun p2 hp2 => ?_⟩
        have nDp : D ≠ p2 := fun e => by
          rw [← e, upd_same] at hp2
          cases hp2
        have hp2' : H1 p2 = Option.none := by
          rw [upd_ne nDp.symm] at hp2
          exact hp2
        refine k _ p2 D (Same.trans sp (fun b o e => ?_)) (sp.free hp2') (sp.free hD) ⟨zs, 0, 0, z, 0, upd_same, ?_, by decide, hp0⟩
        · rw [upd_ne (ne_of_none e hp2')]
          exact sD _ _ _ e
        · rw [upd_ne nDp, upd_same]

theorem numlen {m : Int} (h0 : 0 ≤ m) (h1 : m < 10 ^ 40) : (Str.ofString (toString m)).length ≤ 40 := PyProof.Rows.toString_length_le h0 (by decide) h1

theorem natlt {m : Int} (h1 : 1 ≤ m) (h2 : m < 10 ^ 40) : m.natAbs < 2 ^ 140 := by
  have e : (10 : Int) ^ 40 ≤ 2 ^ 140 := by decide
  have e2 : ((2 ^ 140 : Nat) : Int) = (2 : Int) ^ 140 := by decide
  omega
theorem natlog {m : Int} (h1 : 1 ≤ m) (h2 : m < 10 ^ 40) : m.natAbs.log2 < 140 := PySem.Flt.log2_lt_of (by decide) (natlt h1 h2)
theorem scMixed : FnScope ["pool", "many", "found", "turn"] ["pool", "many"] (defScope sMixed) := ⟨rfl, rfl, rfl, by decide +kernel, rfl, by decide +kernel, by decide +kernel⟩
theorem ok_mixed {f : Addr} {fd : FuncData} (F : Fun K "_law_mixed" "_law_mixed" sMixed f fd) (T : PTxt mg) : FnOk P w K mg base CX0 1 f fd ["pool", "many"] spMixed := by
  refine F.ok scMixed (fun vs H Q E h => ?_) (fun cdv A outer s H vs Q E hr h => ?_)
  · obtain ⟨p, q, m, rfl, _⟩ := h
    rfl
  · obtain ⟨p, q, m, rfl, hP, h1, h2, k⟩ := h
    have npq := hP.ne
    obtain ⟨ns, i, a, z, b, hp, hq, hi, hns⟩ := hP
    refine ⟨_, pss_cons (ps_asg (pe_op op_add (pe_ix ix_list (pv 0) pe_int (fun _ _ => rfl)) pe_int) (pg_sub (pv 0) pe_int set_list))
      (pss_cons (ps_set (i := 2) scMixed.nd rfl (.inl rfl) (pe_ix ix_list (pv 0) pe_int (fun _ _ => rfl)))
      (pss_cons (ps_for PassesOwn.never rfl (pi_range1 rfl T.range (pa_cons (pe_op op_add pe_int (pe_op op_fdiv (pe_callB call_len_str (by rfl) T.len PySem.boot_len (pa_cons (pe_callTy call_str_int (by rfl) T.str (by decide +kernel) (pa_cons (pv 1) pa_nil)) pa_nil)) pe_int)) pa_nil)) (pg_name (i := 3) scMixed.nd rfl (.inl rfl))
        (pss_cons (ps_asg (pe_op op_mod (pe_op op_add (pe_op op_add (pe_op op_mul (pe_ix ix_list (pv 0) pe_int (fun _ _ => rfl)) pe_int) (pe_op op_mul (pe_ix ix_list (pv 0) pe_int (fun _ _ => rfl)) pe_int)) pe_int) pe_int) (pg_sub (pv 0) pe_int set_list))
        (pss_one (ps_set (i := 2) scMixed.nd rfl (.inl rfl) (pe_op op_add (pe_op op_mul (pv 2) pe_int) (pe_op op_fdiv (pe_ix ix_list (pv 0) pe_int (fun _ _ => rfl)) pe_int))))))
      (pss_one (ps_ret (pe_op op_mod (pv 2) (pv 1)))))), ?_⟩
    refine ⟨_, rfl, p, _, 2, _, rfl, rfl, .inl (.inl hp), rfl, _, _, rfl, rfl, _, rfl, p, _, 2, 2, rfl, rfl, hp, rfl, ?_⟩
    refine ⟨_, rfl, p, _, 3, _, rfl, rfl, .inl (.inl upd_same), rfl, ?_⟩
    have hl := numlen (by omega : 0 ≤ m) h2
    have hlog : m.natAbs.log2 < 1920 := Nat.lt_trans (natlog h1 h2) (by decide)
    refine ⟨_, rfl, _, rfl, hlog, _, rfl, Nat.le_trans hl (by decide), _, _, rfl, rfl, ⟨by decide, by decide⟩, _, _, rfl, rfl, _, rfl, ?_, ?_, ?_⟩
    · show -(2 ^ 62) ≤ (1 : Int) + ((Str.ofString (toString m)).length : Int) / 9
      omega
    · show (1 : Int) + ((Str.ofString (toString m)).length : Int) / 9 < 2 ^ 62
      omega
    · refine for_range (lo := 0) (n := ((1 : Int) + ((Str.ofString (toString m)).length : Int) / 9).toNat) (fun j σ H' => ∃ (s' f' : Int) (v : Option V), σ = [some (.ref p), some (.int m), some (.int f'), v] ∧ H' = upd H p (.lst [.ref q, .int i, .int (a + 1), .int s', .int b]))
        ⟨_, _, none, rfl, rfl⟩ ?_ ?_
      · rintro j σ H' _ ⟨s', f', v, rfl, rfl⟩
        refine ⟨_, rfl, p, _, 3, _, rfl, rfl, .inl (.inl upd_same), rfl, _, _, rfl, rfl, .inr ⟨by decide, by decide⟩, _, rfl, p, _, 2, _, rfl, rfl, .inl (.inl upd_same), rfl, _, _, rfl, rfl, .inr ⟨by decide, by decide⟩, _, _, rfl, rfl, _, _, rfl, rfl, _, _, rfl, rfl, (by show (0 : Int) < 2147483647; decide), _, rfl, p, _, 3, 3, rfl, rfl, upd_same, rfl, ?_⟩
        refine ⟨_, rfl, _, _, rfl, rfl, .inr ⟨by decide, by decide⟩, _, rfl, p, _, 3, _, rfl, rfl, .inl (.inl upd_same), rfl, _, _, rfl, rfl, ⟨by decide, by decide⟩, _, _, rfl, rfl, ?_⟩
        exact ⟨_, _, _, rfl, by rw [upd_upd]; rfl⟩
      · rintro σ H' ⟨s', f', v, rfl, rfl⟩
        refine ⟨_, rfl, _, rfl, _, _, rfl, rfl, (by show (0 : Int) < m; omega), ?_⟩
        exact k _ _ But.updP ⟨ns, i, a + 1, s', b, upd_same, by rw [upd_ne npq.symm]; exact hq, hi, hns⟩ (Int.emod_nonneg _ (by omega)) (Int.emod_lt_of_pos _ (by omega))

theorem ixN_nat {n i : Nat} (h : i < n) : ixN n (i : Int) = some i := by
  unfold ixN
  rw [if_pos (by omega), if_pos (by omega), Int.toNat_natCast]
theorem scDraw : FnScope ["pool", "many", "found"] ["pool", "many"] (defScope sDraw) := ⟨rfl, rfl, rfl, by decide +kernel, rfl, by decide +kernel, by decide +kernel⟩
theorem ok_draw {f fM : Addr} {fd fdM : FuncData} (F : Fun K "_law_draw" "_law_draw" sDraw f fd) (T : PTxt mg) (FM : Fun K "_law_mixed" "_law_mixed" sMixed fM fdM) (bM : Binds K fdM ["pool", "many"] []) (gM : mg "_law_mixed" = some (.ref fM)) : FnOk P w K mg base CX0 2 f fd ["pool", "many"] spDraw := by
  have GM : FnOk P w K mg base CX0 1 fM fdM ["pool", "many"] spMixed := ok_mixed FM T
  refine F.ok scDraw (fun vs H Q E h => ?_) (fun cdv A outer s H vs Q E hr h => ?_)
  · obtain ⟨p, q, m, rfl, _⟩ := h
    rfl
  · obtain ⟨p, q, m, rfl, hP, h1, h2, k⟩ := h
    have npq := hP.ne
    have hP0 := hP
    obtain ⟨ns, i, a, z, b, hp, hq, hi, hns⟩ := hP
    refine ⟨_, pss_cons (ps_if (PW.pt (pw_or (pt_cmpR op_ge (pe_ix ix_list (pv 0) pe_int (fun _ _ => rfl)) (pe_callB call_len_seq (by rfl) T.len PySem.boot_len (pa_cons (pe_ix ix_list (pv 0) pe_int (fun _ _ => rfl)) pa_nil)) (nomark _)) (pw_or1 (pt_cmpR op_eq (pv 1) pe_int (nomark _)))))
        (pss_one (ps_ret (pe_ifExp (pt_cmpR op_gt (pv 1) pe_int (nomark _)) (pe_call GM hr rfl gM FM.kp bM .nil pass0 (pa_cons (pv 0) (pa_cons (pv 1) pa_nil))) pe_int))) pss_nil)
      (pss_cons (ps_if (pt_cmpR op_lt (pe_ix ix_list (pe_ix ix_list (pv 0) pe_int (fun _ _ => rfl)) (pe_ix ix_list (pv 0) pe_int (fun _ _ => rfl)) (fun _ _ => rfl)) (pe_op op_pow pe_int pe_int) (nomark _))
        (pss_cons (ps_asg (pe_op op_mod (pe_op op_add (pe_op op_add (pe_op op_add (pe_op op_mul (pe_ix ix_list (pv 0) pe_int (fun _ _ => rfl)) pe_int) (pe_ix ix_list (pe_ix ix_list (pv 0) pe_int (fun _ _ => rfl)) (pe_ix ix_list (pv 0) pe_int (fun _ _ => rfl)) (fun _ _ => rfl))) (pe_ix ix_list (pv 0) pe_int (fun _ _ => rfl))) pe_int) pe_int) (pg_sub (pv 0) pe_int set_list))
        (pss_cons (ps_asg (pe_op op_add (pe_ix ix_list (pv 0) pe_int (fun _ _ => rfl)) pe_int) (pg_sub (pv 0) pe_int set_list))
        (pss_cons (ps_if (pt_cmpR op_eq (pe_op op_mod (pe_ix ix_list (pv 0) pe_int (fun _ _ => rfl)) pe_int) pe_int (nomark _)) (pss_one (ps_asg (pe_op op_add (pe_ix ix_list (pv 0) pe_int (fun _ _ => rfl)) pe_int) (pg_sub (pv 0) pe_int set_list))) pss_nil)
        (pss_one (ps_ret (pe_call GM hr rfl gM FM.kp bM .nil pass0 (pa_cons (pv 0) (pa_cons (pv 1) pa_nil)))))))) pss_nil)
      (pss_cons (ps_set (i := 2) scDraw.nd rfl (.inl rfl) (pe_op op_mod (pe_ix ix_list (pe_ix ix_list (pv 0) pe_int (fun _ _ => rfl)) (pe_ix ix_list (pv 0) pe_int (fun _ _ => rfl)) (fun _ _ => rfl)) (pv 1)))
      (pss_cons (ps_asg (pe_op op_fdivW (pe_ix ix_list (pe_ix ix_list (pv 0) pe_int (fun _ _ => rfl)) (pe_ix ix_list (pv 0) pe_int (fun _ _ => rfl)) (fun _ _ => rfl)) (pv 1)) (pg_sub (pe_ix ix_list (pv 0) pe_int (fun _ _ => rfl)) (pe_ix ix_list (pv 0) pe_int (fun _ _ => rfl)) set_list))
      (pss_cons (ps_if (pt_cmpR op_eq (pe_ix ix_list (pe_ix ix_list (pv 0) pe_int (fun _ _ => rfl)) (pe_ix ix_list (pv 0) pe_int (fun _ _ => rfl)) (fun _ _ => rfl)) pe_int (nomark _)) (pss_one (ps_asg (pe_op op_add (pe_ix ix_list (pv 0) pe_int (fun _ _ => rfl)) pe_int) (pg_sub (pv 0) pe_int set_list))) pss_nil)
      (pss_one (ps_ret (pv 2))))))), ?_⟩
    have sp : SqL K H p [.ref q, .int i, .int a, .int z, .int b] := .inl (.inl hp)
    have sq : SqL K H q (ns.map V.int) := .inl (.inl hq)
    have cmix : ∀ H1 : Hp, But p q H H1 → PoolAt H1 p q → spMixed [.ref p, .int m] H1 Q E := fun H1 e1 e2 => ⟨p, q, m, rfl, e2, h1, h2, fun H2 r b2 p2 r0 r1 => k H2 r (e1.trans b2) p2 r0 r1⟩
    -- if pool[1] >= len(pool[0]) or many == 1
    refine ⟨_, rfl, p, _, 1, _, rfl, rfl, sp, rfl, _, rfl, p, _, 0, _, rfl, rfl, sp, rfl, q, _, rfl, .inl sq, _, _, rfl, rfl, _, rfl, ?_⟩
    have hlen : ((ns.map V.int).length : Int) = (ns.length : Int) := by rw [List.length_map]
    refine ite2 (fun _ => ?_) (fun hlt => ?_)
    · refine ⟨_, rfl, _, _, rfl, rfl, _, rfl, ite2 (fun _ => ?_) (fun e => ?_)⟩
      · exact ⟨_, rfl, _, rfl, cmix H (But.refl _ _ _) hP0⟩
      · exact k H 0 (But.refl _ _ _) hP0 (by omega) (by omega)
    · refine ⟨_, rfl, rfl, _, rfl, ite2 (fun e => ?_) (fun hm1 => ?_)⟩
      · refine ⟨_, rfl, _, _, rfl, rfl, _, rfl, ite2 (fun _ => ?_) (fun e => ?_)⟩
        · exact ⟨_, rfl, _, rfl, cmix H (But.refl _ _ _) hP0⟩
        · exact k H 0 (But.refl _ _ _) hP0 (by omega) (by omega)
      · have hil : i < (ns.length : Int) := by
          have := hlt
          simp only [decide_eq_true_eq] at this
          omega
        obtain ⟨j, rfl⟩ : ∃ j : Nat, i = (j : Int) := ⟨i.toNat, by omega⟩
        have hj : j < ns.length := by omega
        obtain ⟨x, hx⟩ : ∃ x, ns[j]? = some x := ⟨ns[j], List.getElem?_eq_getElem hj⟩
        have hxm : (ns.map V.int)[j]? = some (V.int x) := by rw [List.getElem?_map, hx]; rfl
        have hat : atI (ns.map V.int) (j : Int) = some (V.int x) := atI_nat hxm
        have hx0 : 0 ≤ x := hns x (List.mem_of_getElem? hx)
        have hixN : ixN (ns.map V.int).length (j : Int) = some j := ixN_nat (by rw [List.length_map]; exact hj)
        -- if pool[0][pool[1]] < 10 ** 18
        refine ⟨_, rfl, p, _, 0, _, rfl, rfl, sp, rfl, _, rfl, p, _, 1, _, rfl, rfl, sp, rfl, q, _, _, _, rfl, rfl, sq, hat, _, _, rfl, rfl, ⟨by decide, by decide, by decide⟩, _, _, rfl, rfl, _, rfl, ite2 (fun _ => ?_) (fun _ => ?_)⟩
        · refine ⟨_, rfl, p, _, 3, _, rfl, rfl, sp, rfl, _, _, rfl, rfl, .inr ⟨by decide, by decide⟩, _, rfl, p, _, 0, _, rfl, rfl, sp, rfl, _, rfl, p, _, 1, _, rfl, rfl, sp, rfl, q, _, _, _, rfl, rfl, sq, hat, _, _, rfl, rfl, _, rfl, p, _, 2, _, rfl, rfl, sp, rfl, _, _, rfl, rfl, _, _, rfl, rfl, _, _, rfl, rfl, (by show (0 : Int) < 2147483647; decide), _, rfl, p, _, 3, 3, rfl, rfl, hp, rfl, ?_⟩
          refine ⟨_, rfl, p, _, 4, _, rfl, rfl, .inl (.inl upd_same), rfl, _, _, rfl, rfl, _, rfl, p, _, 4, 4, rfl, rfl, upd_same, rfl, ?_⟩
          rw [upd_upd]
          refine ⟨_, rfl, p, _, 4, _, rfl, rfl, .inl (.inl upd_same), rfl, _, _, rfl, rfl, (by show (0 : Int) < 3; decide), rfl, _, rfl, ite2 (fun _ => ?_) (fun _ => ?_)⟩
          · refine ⟨_, rfl, p, _, 1, _, rfl, rfl, .inl (.inl upd_same), rfl, _, _, rfl, rfl, _, rfl, p, _, 1, 1, rfl, rfl, upd_same, rfl, ?_⟩
            rw [upd_upd]
            refine ⟨_, rfl, _, rfl, cmix _ But.updP ⟨ns, (j : Int) + 1, a, (z * 31 + x + a + 1) % 2147483647, b + 1, upd_same, by rw [upd_ne npq.symm]; exact hq, by omega, hns⟩⟩
          · refine ⟨_, rfl, _, rfl, cmix _ But.updP ⟨ns, (j : Int), a, (z * 31 + x + a + 1) % 2147483647, b + 1, upd_same, by rw [upd_ne npq.symm]; exact hq, by omega, hns⟩⟩
        · -- found = pool[0][pool[1]] % many
          refine ⟨_, rfl, p, _, 0, _, rfl, rfl, sp, rfl, _, rfl, p, _, 1, _, rfl, rfl, sp, rfl, q, _, _, _, rfl, rfl, sq, hat, _, rfl, _, _, rfl, rfl, (by show (0 : Int) < m; omega), ?_⟩
          refine ⟨_, rfl, p, _, 0, _, rfl, rfl, sp, rfl, _, rfl, p, _, 1, _, rfl, rfl, sp, rfl, q, _, _, _, rfl, rfl, sq, hat, _, rfl, _, _, rfl, rfl, wide_div (by omega) (natlt h1 h2) (by decide) (by decide), _, rfl, p, _, 0, _, rfl, rfl, sp, rfl, _, rfl, p, _, 1, _, rfl, rfl, sp, rfl, q, _, _, _, rfl, rfl, hq, hixN, ?_⟩
          have eS : (ns.map V.int).set j (V.int (x / m)) = (ns.set j (x / m)).map V.int := by rw [List.map_set]
          rw [eS]
          have hns' : ∀ n ∈ ns.set j (x / m), 0 ≤ n := fun n hn => by
            rcases List.mem_or_eq_of_mem_set hn with h | h
            · exact hns n h
            · rw [h]
              exact Int.ediv_nonneg hx0 (by omega)
          have hp' : (upd H q (HO.lst ((ns.set j (x / m)).map V.int))) p = some (.lst [.ref q, .int (j : Int), .int a, .int z, .int b]) := by
            rw [upd_ne npq]
            exact hp
          have hq' : (upd H q (HO.lst ((ns.set j (x / m)).map V.int))) q = some (.lst ((ns.set j (x / m)).map V.int)) := upd_same
          have hat' : atI ((ns.set j (x / m)).map V.int) (j : Int) = some (V.int (x / m)) := atI_nat (by
            rw [List.getElem?_map, List.getElem?_set_self hj]
            rfl)
          have r0 : 0 ≤ x % m := Int.emod_nonneg _ (by omega)
          have r1 : x % m < m := Int.emod_lt_of_pos _ (by omega)
          have hB : But p q H (upd H q (HO.lst ((ns.set j (x / m)).map V.int))) := But.updQ
          generalize upd H q (HO.lst ((ns.set j (x / m)).map V.int)) = H1 at *
          have sp1 : SqL K H1 p [.ref q, .int (j : Int), .int a, .int z, .int b] := .inl (.inl hp')
          have sq1 : SqL K H1 q ((ns.set j (x / m)).map V.int) := .inl (.inl hq')
          refine ⟨_, rfl, p, _, 0, _, rfl, rfl, sp1, rfl, _, rfl, p, _, 1, _, rfl, rfl, sp1, rfl, q, _, _, _, rfl, rfl, sq1, hat', rfl, _, rfl, ite2 (fun _ => ?_) (fun _ => ?_)⟩
          · refine ⟨_, rfl, p, _, 1, _, rfl, rfl, sp1, rfl, _, _, rfl, rfl, _, rfl, p, _, 1, 1, rfl, rfl, hp', rfl, ?_⟩
            exact ⟨_, rfl, k _ _ (hB.trans But.updP) ⟨_, (j : Int) + 1, a, z, b, upd_same, by rw [upd_ne npq.symm]; exact hq', by omega, hns'⟩ r0 r1⟩
          · exact ⟨_, rfl, k _ _ hB ⟨_, (j : Int), a, z, b, hp', hq', by omega, hns'⟩ r0 r1⟩
end
set_option maxHeartbeats 4000000
/-! ### the errors, caught -/
abbrev sWhich : Stmt := top 31
abbrev sCaught : Stmt := top 32
/-- what the written part says of the errors, for those who catch them -/
structure HTxt (K : PySem.W.Frag) (mg : Str → Option Value) (cH : Addr) (cs : List Addr) : Prop where
  isi : mg "isinstance" = none
  reprN : mg "repr" = none
  gH : mg "HandleError" = some (.ref cH)
  g0 : mg "InvalidNumber" = some (.ref (cs.getD 0 0))
  g1 : mg "InvalidName" = some (.ref (cs.getD 1 0))
  g2 : mg "InvalidRow" = some (.ref (cs.getD 2 0))
  g3 : mg "InvalidSort" = some (.ref (cs.getD 3 0))
  g4 : mg "InvalidProgram" = some (.ref (cs.getD 4 0))
  g5 : mg "InvalidText" = some (.ref (cs.getD 5 0))
  g6 : mg "InvalidBook" = some (.ref (cs.getD 6 0))
  g7 : mg "InvalidHands" = some (.ref (cs.getD 7 0))
  g8 : mg "InvalidStep" = some (.ref (cs.getD 8 0))
  g9 : mg "InvalidEdit" = some (.ref (cs.getD 9 0))
  g10 : mg "InvalidCommand" = some (.ref (cs.getD 10 0))
  g11 : mg "TooMany" = some (.ref (cs.getD 11 0))
  g12 : mg "NothingToUndo" = some (.ref (cs.getD 12 0))
  ex : ∀ i, i < 13 → ExcC K (cs.getD i 0)
  xf : ∀ i, i < 12 → XfC K (cs.getD i 0)
  noV : ∀ i, i < 11 → PySem.W.findIn K (.ref (cs.getD i 0)) "value" = some none
  kit : ∀ i j, i < 13 → j < 13 → PySem.W.kitOne K (.ref (cs.getD i 0)) (.ref (cs.getD j 0)) = some (decide (i = j))
  kitH : ∀ i, i < 13 → PySem.W.kitOne K (.ref (cs.getD i 0)) (.ref cH) = some (decide (i < 11))
  exmH : ∀ i, i < 13 → PySem.W.exmOne K (.ref (cs.getD i 0)) (.ref cH) = some (decide (i < 11))
def whichL : List Str := ["number", "name", "row", "sort", "program", "text", "book", "hands", "step", "edit", "command", "many", "undo"]
/-- which error it is that is caught -/
def spWhichP (K : PySem.W.Frag) (cs : List Addr) (p : Addr × Obj) : Sp := fun vs H Q _ => ∃ i : Nat, vs = [.ref p.1] ∧ i < 13 ∧ p.2.cls = .ref (cs.getD i 0) ∧ (∃ vs, p.2.data = .fields vs) ∧
  (p.2.dict = none ∨ ∃ dd fs, p.2.dict = some dd ∧ H dd = some (.xd fs)) ∧ ∀ H', Same H H' → Q (.str (whichL.getD i "")) H'
theorem same_xd {H H' : Hp} {p : Addr × Obj} (h : p.2.dict = none ∨ ∃ dd fs, p.2.dict = some dd ∧ H dd = some (.xd fs)) (s : Same H H') : p.2.dict = none ∨ ∃ dd fs, p.2.dict = some dd ∧ H' dd = some (.xd fs) := by
  rcases h with h | ⟨dd, fs, h, e⟩
  · exact .inl h
  · exact .inr ⟨dd, fs, h, s _ _ e⟩
section
variable {P : Program} {w : World} {K : PySem.W.Frag} {mg : Str → Option Value} {base : Heap} {cH : Addr} {cs : List Addr}
theorem scWhich : FnScope ["error", "kinds", "names"] ["error"] (defScope sWhich) := ⟨rfl, rfl, rfl, by decide +kernel, rfl, by decide +kernel, by decide +kernel⟩
def kindsL (i : Nat) (n : Nat) : List V := (List.range n).map fun j => V.bl (decide (i = j))
theorem ok_whichP {f : Addr} {fd : FuncData} (F : Fun K "_law_which" "_law_which" sWhich f fd) (T : HTxt K mg cH cs) : FnP P w K mg base 1 f fd ["error"] (spWhichP K cs) := by
  refine fnP_ok F scWhich (fun p vs H Q E h => ?_) (fun cdv A outer s H vs Q E p hr h => ?_)
  · obtain ⟨i, rfl, _⟩ := h
    rfl
  · obtain ⟨i, rfl, hi, c1, c2, c3, k⟩ := h
    have hex := T.ex i hi
    have hp : p ∈ [p] := List.mem_singleton.mpr rfl
    refine ⟨_, (pss_cons (ps_set (i := 1) scWhich.nd rfl (.inl rfl) (pe_lst (pa_cons (pe_callB (id := "isinstance") (r := rIsP K p) (call_isP hp) (by rfl) T.isi (by decide +kernel) (pa_cons (pv 0) (pa_cons (pe_glob (v := .ref (cs.getD 0 0)) rfl T.g0 rfl) pa_nil))) (pa_cons (pe_callB (id := "isinstance") (r := rIsP K p) (call_isP hp) (by rfl) T.isi (by decide +kernel) (pa_cons (pv 0) (pa_cons (pe_glob (v := .ref (cs.getD 1 0)) rfl T.g1 rfl) pa_nil))) (pa_cons (pe_callB (id := "isinstance") (r := rIsP K p) (call_isP hp) (by rfl) T.isi (by decide +kernel) (pa_cons (pv 0) (pa_cons (pe_glob (v := .ref (cs.getD 2 0)) rfl T.g2 rfl) pa_nil))) pa_nil)))))
      (pss_cons (ps_set (i := 1) scWhich.nd rfl (.inl rfl) (pe_op op_cat (pv 1) (pe_lst (pa_cons (pe_callB (id := "isinstance") (r := rIsP K p) (call_isP hp) (by rfl) T.isi (by decide +kernel) (pa_cons (pv 0) (pa_cons (pe_glob (v := .ref (cs.getD 3 0)) rfl T.g3 rfl) pa_nil))) (pa_cons (pe_callB (id := "isinstance") (r := rIsP K p) (call_isP hp) (by rfl) T.isi (by decide +kernel) (pa_cons (pv 0) (pa_cons (pe_glob (v := .ref (cs.getD 4 0)) rfl T.g4 rfl) pa_nil))) (pa_cons (pe_callB (id := "isinstance") (r := rIsP K p) (call_isP hp) (by rfl) T.isi (by decide +kernel) (pa_cons (pv 0) (pa_cons (pe_glob (v := .ref (cs.getD 5 0)) rfl T.g5 rfl) pa_nil))) pa_nil))))))
      (pss_cons (ps_set (i := 1) scWhich.nd rfl (.inl rfl) (pe_op op_cat (pv 1) (pe_lst (pa_cons (pe_callB (id := "isinstance") (r := rIsP K p) (call_isP hp) (by rfl) T.isi (by decide +kernel) (pa_cons (pv 0) (pa_cons (pe_glob (v := .ref (cs.getD 6 0)) rfl T.g6 rfl) pa_nil))) (pa_cons (pe_callB (id := "isinstance") (r := rIsP K p) (call_isP hp) (by rfl) T.isi (by decide +kernel) (pa_cons (pv 0) (pa_cons (pe_glob (v := .ref (cs.getD 7 0)) rfl T.g7 rfl) pa_nil))) (pa_cons (pe_callB (id := "isinstance") (r := rIsP K p) (call_isP hp) (by rfl) T.isi (by decide +kernel) (pa_cons (pv 0) (pa_cons (pe_glob (v := .ref (cs.getD 8 0)) rfl T.g8 rfl) pa_nil))) pa_nil))))))
      (pss_cons (ps_set (i := 1) scWhich.nd rfl (.inl rfl) (pe_op op_cat (pv 1) (pe_lst (pa_cons (pe_callB (id := "isinstance") (r := rIsP K p) (call_isP hp) (by rfl) T.isi (by decide +kernel) (pa_cons (pv 0) (pa_cons (pe_glob (v := .ref (cs.getD 9 0)) rfl T.g9 rfl) pa_nil))) (pa_cons (pe_callB (id := "isinstance") (r := rIsP K p) (call_isP hp) (by rfl) T.isi (by decide +kernel) (pa_cons (pv 0) (pa_cons (pe_glob (v := .ref (cs.getD 10 0)) rfl T.g10 rfl) pa_nil))) (pa_cons (pe_callB (id := "isinstance") (r := rIsP K p) (call_isP hp) (by rfl) T.isi (by decide +kernel) (pa_cons (pv 0) (pa_cons (pe_glob (v := .ref (cs.getD 11 0)) rfl T.g11 rfl) pa_nil))) pa_nil))))))
      (pss_cons (ps_set (i := 1) scWhich.nd rfl (.inl rfl) (pe_op op_cat (pv 1) (pe_lst (pa_cons (pe_callB (id := "isinstance") (r := rIsP K p) (call_isP hp) (by rfl) T.isi (by decide +kernel) (pa_cons (pv 0) (pa_cons (pe_glob (v := .ref (cs.getD 12 0)) rfl T.g12 rfl) pa_nil))) pa_nil))))
      (pss_cons (ps_if (PW.pt (pw_or (pt_cmpR op_ne (pe_bm PySem.F.plainAttrs_list PySem.F.slot_list_count PySem.F.type_list_count mt_count (pv 1) (pa_cons pe_bl pa_nil)) pe_int (nomark _)) (pw_or1 (pt_cmpR op_ne (pe_callB (id := "isinstance") (r := rIsP K p) (call_isP hp) (by rfl) T.isi (by decide +kernel) (pa_cons (pv 0) (pa_cons (pe_glob (v := .ref cH) rfl T.gH rfl) pa_nil))) (pe_cmpR op_lt (pe_bm PySem.F.plainAttrs_list PySem.F.slot_list_index PySem.F.type_list_index mt_index (pv 1) (pa_cons pe_bl pa_nil)) pe_int (nomark _)) (by rfl))))) (pss_one (ps_ret pe_str)) pss_nil)
      (pss_cons (ps_set (i := 2) scWhich.nd rfl (.inl rfl) (pe_lst (pa_cons pe_str (pa_cons pe_str (pa_cons pe_str (pa_cons pe_str (pa_cons pe_str (pa_cons pe_str (pa_cons pe_str (pa_cons pe_str (pa_cons pe_str (pa_cons pe_str (pa_cons pe_str (pa_cons pe_str pa_nil))))))))))))))
      (pss_one (ps_ret (pe_ix ix_list (pe_op op_cat (pv 2) (pe_lst (pa_cons pe_str pa_nil))) (pe_bm PySem.F.plainAttrs_list PySem.F.slot_list_index PySem.F.type_list_index mt_index (pv 1) (pa_cons pe_bl pa_nil)) (fun _ _ => rfl))))))))))), ?_⟩
    refine ⟨_, rfl, _, .ref _, _, decide (i = 0), rfl, c1, c2, hex, c3, .own _, T.kit i 0 hi (by decide), ⟨_, rfl, _, .ref _, _, decide (i = 1), rfl, c1, c2, hex, c3, .own _, T.kit i 1 hi (by decide), ⟨_, rfl, _, .ref _, _, decide (i = 2), rfl, c1, c2, hex, c3, .own _, T.kit i 2 hi (by decide), (by show 3 ≤ sizeLine; decide), fun p0 hp0 => ?_⟩⟩⟩
    have z0 : Same H (upd H p0 (.lst [V.bl (decide (i = 0)), V.bl (decide (i = 1)), V.bl (decide (i = 2))])) := Same.new hp0
    have f0 : (upd H p0 (.lst [V.bl (decide (i = 0)), V.bl (decide (i = 1)), V.bl (decide (i = 2))])) p0 = some (.lst (kindsL i 3)) := upd_same
    generalize upd H p0 (.lst [V.bl (decide (i = 0)), V.bl (decide (i = 1)), V.bl (decide (i = 2))]) = G0 at *
    refine ⟨_, rfl, ⟨_, rfl, _, .ref _, _, decide (i = 3), rfl, c1, c2, hex, (same_xd c3 z0), .own _, T.kit i 3 hi (by decide), ⟨_, rfl, _, .ref _, _, decide (i = 4), rfl, c1, c2, hex, (same_xd c3 z0), .own _, T.kit i 4 hi (by decide), ⟨_, rfl, _, .ref _, _, decide (i = 5), rfl, c1, c2, hex, (same_xd c3 z0), .own _, T.kit i 5 hi (by decide), (by show 3 ≤ sizeLine; decide), fun l1 hl1 => ⟨p0, l1, kindsL i 3, [V.bl (decide (i = 3)), V.bl (decide (i = 4)), V.bl (decide (i = 5))], rfl, rfl, (Same.new hl1) _ _ f0, upd_same, (by show 6 ≤ sizeLine; decide), fun p1 hp1 => ?_⟩⟩⟩⟩⟩
    have z1 : Same H (upd (upd G0 l1 (.lst [V.bl (decide (i = 3)), V.bl (decide (i = 4)), V.bl (decide (i = 5))])) p1 (.lst (kindsL i 3 ++ [V.bl (decide (i = 3)), V.bl (decide (i = 4)), V.bl (decide (i = 5))]))) := z0.trans ((Same.new hl1).trans (Same.new hp1))
    have f1 : (upd (upd G0 l1 (.lst [V.bl (decide (i = 3)), V.bl (decide (i = 4)), V.bl (decide (i = 5))])) p1 (.lst (kindsL i 3 ++ [V.bl (decide (i = 3)), V.bl (decide (i = 4)), V.bl (decide (i = 5))]))) p1 = some (.lst (kindsL i 6)) := upd_same
    generalize upd (upd G0 l1 (.lst [V.bl (decide (i = 3)), V.bl (decide (i = 4)), V.bl (decide (i = 5))])) p1 (.lst (kindsL i 3 ++ [V.bl (decide (i = 3)), V.bl (decide (i = 4)), V.bl (decide (i = 5))])) = G1 at *
    refine ⟨_, rfl, ⟨_, rfl, _, .ref _, _, decide (i = 6), rfl, c1, c2, hex, (same_xd c3 z1), .own _, T.kit i 6 hi (by decide), ⟨_, rfl, _, .ref _, _, decide (i = 7), rfl, c1, c2, hex, (same_xd c3 z1), .own _, T.kit i 7 hi (by decide), ⟨_, rfl, _, .ref _, _, decide (i = 8), rfl, c1, c2, hex, (same_xd c3 z1), .own _, T.kit i 8 hi (by decide), (by show 3 ≤ sizeLine; decide), fun l2 hl2 => ⟨p1, l2, kindsL i 6, [V.bl (decide (i = 6)), V.bl (decide (i = 7)), V.bl (decide (i = 8))], rfl, rfl, (Same.new hl2) _ _ f1, upd_same, (by show 9 ≤ sizeLine; decide), fun p2 hp2 => ?_⟩⟩⟩⟩⟩
    have z2 : Same H (upd (upd G1 l2 (.lst [V.bl (decide (i = 6)), V.bl (decide (i = 7)), V.bl (decide (i = 8))])) p2 (.lst (kindsL i 6 ++ [V.bl (decide (i = 6)), V.bl (decide (i = 7)), V.bl (decide (i = 8))]))) := z1.trans ((Same.new hl2).trans (Same.new hp2))
    have f2 : (upd (upd G1 l2 (.lst [V.bl (decide (i = 6)), V.bl (decide (i = 7)), V.bl (decide (i = 8))])) p2 (.lst (kindsL i 6 ++ [V.bl (decide (i = 6)), V.bl (decide (i = 7)), V.bl (decide (i = 8))]))) p2 = some (.lst (kindsL i 9)) := upd_same
    generalize upd (upd G1 l2 (.lst [V.bl (decide (i = 6)), V.bl (decide (i = 7)), V.bl (decide (i = 8))])) p2 (.lst (kindsL i 6 ++ [V.bl (decide (i = 6)), V.bl (decide (i = 7)), V.bl (decide (i = 8))])) = G2 at *
    refine ⟨_, rfl, ⟨_, rfl, _, .ref _, _, decide (i = 9), rfl, c1, c2, hex, (same_xd c3 z2), .own _, T.kit i 9 hi (by decide), ⟨_, rfl, _, .ref _, _, decide (i = 10), rfl, c1, c2, hex, (same_xd c3 z2), .own _, T.kit i 10 hi (by decide), ⟨_, rfl, _, .ref _, _, decide (i = 11), rfl, c1, c2, hex, (same_xd c3 z2), .own _, T.kit i 11 hi (by decide), (by show 3 ≤ sizeLine; decide), fun l3 hl3 => ⟨p2, l3, kindsL i 9, [V.bl (decide (i = 9)), V.bl (decide (i = 10)), V.bl (decide (i = 11))], rfl, rfl, (Same.new hl3) _ _ f2, upd_same, (by show 12 ≤ sizeLine; decide), fun p3 hp3 => ?_⟩⟩⟩⟩⟩
    have z3 : Same H (upd (upd G2 l3 (.lst [V.bl (decide (i = 9)), V.bl (decide (i = 10)), V.bl (decide (i = 11))])) p3 (.lst (kindsL i 9 ++ [V.bl (decide (i = 9)), V.bl (decide (i = 10)), V.bl (decide (i = 11))]))) := z2.trans ((Same.new hl3).trans (Same.new hp3))
    have f3 : (upd (upd G2 l3 (.lst [V.bl (decide (i = 9)), V.bl (decide (i = 10)), V.bl (decide (i = 11))])) p3 (.lst (kindsL i 9 ++ [V.bl (decide (i = 9)), V.bl (decide (i = 10)), V.bl (decide (i = 11))]))) p3 = some (.lst (kindsL i 12)) := upd_same
    generalize upd (upd G2 l3 (.lst [V.bl (decide (i = 9)), V.bl (decide (i = 10)), V.bl (decide (i = 11))])) p3 (.lst (kindsL i 9 ++ [V.bl (decide (i = 9)), V.bl (decide (i = 10)), V.bl (decide (i = 11))])) = G3 at *
    refine ⟨_, rfl, ⟨_, rfl, _, .ref _, _, decide (i = 12), rfl, c1, c2, hex, (same_xd c3 z3), .own _, T.kit i 12 hi (by decide), (by show 1 ≤ sizeLine; decide), fun l4 hl4 => ⟨p3, l4, kindsL i 12, [V.bl (decide (i = 12))], rfl, rfl, (Same.new hl4) _ _ f3, upd_same, (by show 13 ≤ sizeLine; decide), fun p4 hp4 => ?_⟩⟩⟩
    have z4 : Same H (upd (upd G3 l4 (.lst [V.bl (decide (i = 12))])) p4 (.lst (kindsL i 12 ++ [V.bl (decide (i = 12))]))) := z3.trans ((Same.new hl4).trans (Same.new hp4))
    have f4 : (upd (upd G3 l4 (.lst [V.bl (decide (i = 12))])) p4 (.lst (kindsL i 12 ++ [V.bl (decide (i = 12))]))) p4 = some (.lst (kindsL i 13)) := upd_same
    generalize upd (upd G3 l4 (.lst [V.bl (decide (i = 12))])) p4 (.lst (kindsL i 12 ++ [V.bl (decide (i = 12))])) = G4 at *
    have hflat : (kindsL i 13).all flatV = true := rfl
    have key : ∀ i, i < 13 → (kindsL i 13).countP (eqV · (.bl true)) = 1 ∧ (kindsL i 13)[i]? = some (.bl true) ∧ (∀ m, m < i → (kindsL i 13)[m]? = some (.bl false)) ∧ whichL[i]? = some (whichL.getD i "") := by
      decide +kernel
    obtain ⟨q1, q2, q3, q4⟩ := key i hi
    have q3' : ∀ (m : Nat) (z' : V), m < i → (kindsL i 13)[m]? = some z' → eqV z' (.bl true) = false := fun m z' hm e => by
      rw [q3 m hm] at e
      cases e
      rfl
    -- kinds.count(True) != 1 or ..
    refine ⟨_, rfl, .inl ⟨rfl, _, SqL.of f4⟩, p4, _, _, rfl, rfl, SqL.of f4, rfl, hflat, rfl, _, rfl, ?_⟩
    rw [q1]
    refine iteF ⟨_, rfl, _, .ref _, _, decide (i < 11), rfl, c1, c2, hex, same_xd c3 z4, .own _, T.kitH i hi, _, rfl, .inl ⟨rfl, _, SqL.of f4⟩, p4, _, _, i, _, rfl, rfl, SqL.of f4, rfl, hflat, q2, rfl, q3', _, _, rfl, rfl, rfl, _, rfl, ?_⟩
    have e11 : (decide ((i : Int) < 11)) = decide (i < 11) := decide_eq_decide.mpr (by omega)
    refine iteNS (c := V.bl (decide (i < 11)) = V.bl (decide ((i : Int) < 11))) (by rw [e11]) ?_
    refine ⟨(by show 12 ≤ sizeLine; decide), fun p5 hp5 => ⟨_, rfl, (by show 1 ≤ sizeLine; decide), fun l6 hl6 => ⟨p5, l6, _, _, rfl, rfl, (Same.new hl6) _ _ upd_same, upd_same, (by show 13 ≤ sizeLine; decide), fun p6 hp6 => ?_⟩⟩⟩
    have s5 := ((Same.new (o := .lst [.str "number", .str "name", .str "row", .str "sort", .str "program", .str "text", .str "book", .str "hands", .str "step", .str "edit", .str "command", .str "many"]) hp5).trans (Same.new (o := .lst [.str "undo"]) hl6)).trans
      (Same.new (o := .lst ([.str "number", .str "name", .str "row", .str "sort", .str "program", .str "text", .str "book", .str "hands", .str "step", .str "edit", .str "command", .str "many"] ++ [.str "undo"])) hp6)
    have g4 := s5 _ _ f4
    have q4' : (([.str "number", .str "name", .str "row", .str "sort", .str "program", .str "text", .str "book", .str "hands", .str "step", .str "edit", .str "command", .str "many"] : List V) ++ [.str "undo"])[i]? = some (.str (whichL.getD i "")) := by
      have e : (([.str "number", .str "name", .str "row", .str "sort", .str "program", .str "text", .str "book", .str "hands", .str "step", .str "edit", .str "command", .str "many"] : List V) ++ [.str "undo"]) = whichL.map V.str := rfl
      rw [e, List.getElem?_map, q4]
      rfl
    refine ⟨_, rfl, .inl ⟨rfl, _, SqL.of g4⟩, p4, _, _, i, _, rfl, rfl, SqL.of g4, rfl, hflat, q2, rfl, q3', ?_⟩
    exact ⟨p6, _, (i : Int), _, rfl, rfl, SqL.of upd_same, atI_nat q4', k _ (z4.trans s5)⟩
theorem scCaught : FnScope ["call", "e"] ["call"] (defScope sCaught) := ⟨rfl, rfl, rfl, by decide +kernel, rfl, by decide +kernel, by decide +kernel⟩
end

/-- _law_which, by the error's class and dict alone -/
def spWh (K : PySem.W.Frag) (cs : List Addr) (a : Addr) (cls : Value) (d : Option Addr) : Sp := fun vs H Q _ => ∃ i : Nat, vs = [.ref a] ∧ i < 13 ∧ cls = .ref (cs.getD i 0) ∧
  (d = none ∨ ∃ dd fs, d = some dd ∧ H dd = some (.xd fs)) ∧ ∀ H', Same H H' → Q (.str (whichL.getD i "")) H'
theorem spWh_imp {K : PySem.W.Frag} {cs : List Addr} {a : Addr} {oe : Obj} {cls : Value} {d : Option Addr} (hz : Zc cls d oe) (hf : ∃ vs, oe.data = .fields vs) : ∀ vs H Q E, spWh K cs a cls d vs H Q E → spWhichP K cs (a, oe) vs H Q E := by
  rintro vs H Q E ⟨i, rfl, hi, hc, hd, k⟩
  refine ⟨i, rfl, hi, hz.1.trans hc, hf, ?_, k⟩
  have e : oe.dict = d := hz.2
  rcases hd with hd | ⟨dd, fs, hd, ed⟩
  · exact .inl (e.trans hd)
  · exact .inr ⟨dd, fs, e.trans hd, ed⟩
/-- e.f, e the error that is caught, of whatever own class -/
def tXfG (K : PySem.W.Frag) (a : Addr) (cls : Value) (d : Option Addr) (f : Str) (te : TE) : TE := fun σ H Q => te σ H fun x H1 => x = .ref a ∧ ∃ (C dd : Addr) (fs : List (Str × V)) (v : V), cls = .ref C ∧ XfC K C ∧ PySem.W.findIn K (.ref C) f = some none ∧
  d = some dd ∧ H1 dd = some (.xd fs) ∧ fs.lookup f = some v ∧ Q v H1
theorem pe_xfG {X : Cx} {a : Addr} {oe : Obj} {cls : Value} {d : Option Addr} {pn : List (Addr × Obj)} {e : Expr} {te : TE} {pos : Pos} {n : Str} (hz : Zc cls d oe) (hf : ∃ vs, oe.data = .fields vs) (he : PE (X.suite a ((a, oe) :: pn)) e te)
    (hb : attributeBase e n X.env (eval e X.env) = eval e X.env := by rfl) : PE (X.suite a ((a, oe) :: pn)) (.Attribute e n pos) (tXfG X.K a cls d n te) := by
  constructor
  intro pins s σ H Q I h
  refine attr_of hb (thn (he.run pins s σ H _ I h) fun u s1 hh => ?_)
  obtain ⟨x, H1, I1, rx, ex, C, dd, fs, v, ec, T, hno, ed, ea, l, q⟩ := hh
  subst ex
  obtain rfl : u = Value.ref a := rx
  subst ec
  subst ed
  have P1 := I1.pin (a, oe) (List.mem_append_left _ List.mem_cons_self)
  obtain ⟨vs, hd⟩ := hf
  have z : ObjOk X.prog X.w H1 s1.heap dd (.xd fs) := I1.hok dd _ ea
  obtain ⟨mA, hns, hr⟩ := z
  obtain ⟨od, ho, hl⟩ := lookIn_ns hns
  obtain ⟨w, hw, rw'⟩ := RelO.some_of (v := v) (o := mA n) (by rw [← l]; exact hr n)
  have J : PySem.W.InstAt s1.heap a oe C (some od) := ⟨P1.1, hz.1, by unfold PySem.W.notCls; rw [hd], by rw [hz.2]; exact ho⟩
  exact HandSPX.exc_get I1.kIn J T.ga T.gg T.exC (PySem.W.findObj_own T.hdC hno rfl (by rw [hl, hw])) (handed_of rw') ⟨v, H1, I1.tok _, rw', q⟩
abbrev rReprD (K : PySem.W.Frag) : List V → Hp → VK → Prop := fun xs H Q => ∃ v d, xs = [v] ∧ Rp K H v d ∧ okD d = true ∧ Q (.str d.shown) H
/-- what is wished of an error that the lambda raises -/
def ECt (K : PySem.W.Frag) (cs : List Addr) (Q : VK) : XK := fun cls d H' => ∃ (i : Nat) (dd : Addr) (v : V) (dv : PyData), i < 11 ∧ cls = .ref (cs.getD i 0) ∧ d = some dd ∧ H' dd = some (.xd [("value", v)]) ∧ Rp K H' v dv ∧ okD dv = true ∧
  ∀ H'' p, Same H' H'' → H'' p = some (.lst [.str (whichL.getD i ""), .str dv.shown]) → Q (.ref p) H''
/-- _law_caught of a lambda of the reading tl -/
def TTc (K : PySem.W.Frag) (cs : List Addr) (tl : XK → Hp → VK → Prop) : Hp → VK → Prop := fun H Q => ∀ E : XK, (∀ cls d H', ECt K cs Q cls d H' → E cls d H') → tl E H (fun _ H' => Q .non H')
/-- the slots are as many as the names -/
theorem pss_len {X : Cx} {st : List Stmt} {t : TS} (n : Nat) (hn : X.N.length = n) (h : PSs X st t) : PSs X st (fun D σ H => σ.length = n → t D σ H) :=
  ⟨fun pins s σ H D I hq => h.run pins s σ H D I (hq (I.len.trans hn))⟩
section
variable {Z : Cx} {cH fW a : Addr} {fdW : FuncData} {cs : List Addr} {oe : Obj} {cls : Value} {d : Option Addr} {pn : List (Addr × Obj)} {i : Nat}
theorem pe_whichC {p1 p2 p3 : Pos} (GW : FnP Z.prog Z.w Z.K Z.mg Z.base 1 fW fdW ["error"] (spWhichP Z.K cs)) (hr : L2H.RoomH 1 Z.A) (hz : Zc cls d oe) (hf : ∃ vs, oe.data = .fields vs) (hgl : Gl Z "_law_which") (gW : Z.mg "_law_which" = some (.ref fW))
    (hk : PySem.W.keepIn Z.K (.ref fW) = true) (bW : L2.Binds Z.K fdW ["error"] []) (hN : Z.N[i]? = some "e") (hv : Vis Z.env.scope "e") :
    PE (Z.suite a ((a, oe) :: pn)) (.Call (.Name "_law_which" p1) [.Name "e" p2] [] p3) (fun σ H Q => tCons (tVar i) tNil σ H fun vs H1 => spWh Z.K cs a cls d vs H1 Q E0) :=
  pe_callP (X := Z.suite a ((a, oe) :: pn)) (p := (a, oe)) (spr := spWh Z.K cs a cls d) (spWh_imp hz hf) GW ⟨hr.dp, hr.un⟩ (List.mem_cons_self ..) hgl gW hk bW (pa_cons (pv i hN hv) pa_nil)
theorem pe_reprC {p1 p2 p3 p4 : Pos} {f : Str} (hg : Z.A.guards = some []) (hu : Z.A.units + 64 < cLine) (hz : Zc cls d oe) (hf : ∃ vs, oe.data = .fields vs) (hgl : Gl Z "repr") (hm : Z.mg "repr" = none) (hN : Z.N[i]? = some "e") (hv : Vis Z.env.scope "e")
    (hb : attributeBase (.Name "e" p2) f Z.env (eval (.Name "e" p2) Z.env) = eval (.Name "e" p2) Z.env) :
    PE (Z.suite a ((a, oe) :: pn)) (.Call (.Name "repr" p1) [.Attribute (.Name "e" p2) f p3] [] p4) (tCB (rReprD Z.K) (tCons (tXfG Z.K a cls d f (tVar i)) tNil)) :=
  pe_callB (X := Z.suite a ((a, oe) :: pn)) (id := "repr") (r := rReprD Z.K) (call_reprD (X := Z.suite a ((a, oe) :: pn)) hg hu) hgl hm (by decide +kernel) (pa_cons (pe_xfG (X := Z) hz hf (pv i hN hv) hb) pa_nil)
end
section
variable {X : Cx} {cH : Addr} {cs : List Addr}
theorem gives_caught {g fW : Addr} {cdg : Value} {fdW : FuncData} {q : Str} (T : HTxt X.K X.mg cH cs) (FW : Fun X.K "_law_which" "_law_which" sWhich fW fdW) (bW : L2.Binds X.K fdW ["error"] []) (gW : X.mg "_law_which" = some (.ref fW)) (hg : X.A.guards = some [])
    (hr : Room 8 X.A) : LamX.GivesTo X ["call", "e"] "_law_caught" (defScope sCaught) g cdg (defBody sCaught) "call" q (TTc X.K cs) := by
  intro f c' s H Q tl hc hcc hTT
  have GW : FnP X.prog X.w X.K X.mg X.base 1 fW fdW ["error"] (spWhichP X.K cs) := ok_whichP FW T
  have hrH : ∀ env : Env, L2H.RoomH 1 (X.A.deeper env) := fun env => (L2H.roomH_of (hr.deeper env)).mono (by decide)
  have hu : ∀ env : Env, (X.A.deeper env).units + 64 < cLine := fun env => (hr.deeper env).units
  let Z : Cx := (cxOf C8.CX0 X.prog X.w X.K X.mg X.base ["call", "e"] "_law_caught" (defScope sCaught) g cdg X.A X.stack s H C8.E0).nox
  refine ⟨_, pss_cons (X := Z) (ps_try_manyA (X := Z) rfl rfl scCaught.nd takes_none5 (fun W pn xe tk _ => pss_one (ps_expr (hc W pn xe (fun cls d H' => ∀ σ', W cls d σ' H') _ _ tk (fun cls d σ' H' h => h σ'))))
      (.cons (i := 1) ⟨by rfl, by decide, .inl T.gH⟩ rfl rfl (fun a oe cls d pn hz hf => pss_len 2 rfl (pss_one (ps_ret (pe_lst (pa_cons (pe_whichC (Z := Z) (i := 1) (a := a) (pn := pn) GW (hrH _) hz hf (by rfl) gW FW.kp bW rfl (.inl rfl))
          (pa_cons (pe_reprC (Z := Z) (i := 1) (a := a) (pn := pn) hg (hu _) hz hf (by rfl) T.reprN rfl (.inl rfl) rfl) pa_nil))))))
      (.cons (i := 1) ⟨by rfl, by decide, .inl T.g11⟩ rfl rfl (fun a oe cls d pn hz hf => pss_len 2 rfl (pss_one (ps_ret (pe_lst (pa_cons (pe_whichC (Z := Z) (i := 1) (a := a) (pn := pn) GW (hrH _) hz hf (by rfl) gW FW.kp bW rfl (.inl rfl))
          (pa_cons (pe_reprC (Z := Z) (i := 1) (a := a) (pn := pn) hg (hu _) hz hf (by rfl) T.reprN rfl (.inl rfl) rfl) pa_nil))))))
      (.cons (i := 1) ⟨by rfl, by decide, .inl T.g12⟩ rfl rfl (fun a oe cls d pn hz hf => pss_len 2 rfl (pss_one (ps_ret (pe_lst (pa_cons (pe_whichC (Z := Z) (i := 1) (a := a) (pn := pn) GW (hrH _) hz hf (by rfl) gW FW.kp bW rfl (.inl rfl))
          (pa_cons (pe_str (x := Str.ofString "")) pa_nil))))))
      .nil)))) (pss_one (ps_ret pe_non)), ?_⟩
  refine ⟨rfl, hcc, hTT _ fun cls d H' hE σ' => ?_⟩
  obtain ⟨i, dd, v, dv, hi, rfl, rfl, ed, hv, ho, k⟩ := hE
  refine ⟨true, (T.exmH i (by omega)).trans (by rw [decide_eq_true hi]), fun _ a na hlen => ?_, fun q => nomatch q⟩
  have h1 : (σ'.set 1 (some (V.ref a)))[1]? = some (some (V.ref a)) := by
    have : (σ'.set 1 (some (V.ref a))).length = 2 := hlen
    rw [List.length_set] at this
    exact List.getElem?_set_self (by omega)
  refine ⟨_, h1, i, rfl, by omega, rfl, .inr ⟨dd, _, rfl, ed⟩, fun H2 s2 => ?_⟩
  have hv2 : Rp X.K H2 v dv := rp_same hv s2
  refine ⟨_, h1, rfl, cs.getD i 0, dd, _, v, rfl, T.xf i (by omega), T.noV i hi, rfl, s2 _ _ ed, (by simp), v, dv, rfl, hv2, ho, (by show 2 ≤ sizeLine; decide), fun p hp => ?_⟩
  exact k _ p (s2.trans (Same.new hp)) upd_same
end
/-! ### the end of a law: no repr under way, tables of lambdas -/
section
open LamX
/-- the law's own call, tables of code at hand -/
theorem lawGT {cs : List (Addr × Addr)} {CX : CXT} {P : Program} {w : World} {K : PySem.W.Frag} {mg mb : Str → Option Value} {k : Nat} {fa a : Addr} {fd : FuncData} {sp : Sp} {s₁ : Shared} {vs : List Value} {ns : List Int} (dcx : ∀ D e s', CX [] D s₁ (fun _ _ _ => False) e s' → False) (tz : ∀ p ∈ cs, s₁.heap.get? p.2 = some { cls := .none, data := .fields #[] }) (tn : ∀ p ∈ cs, K.lookup p.2 = none) (th : ∀ p ∈ cs, PySem.W.CodeHd s₁.heap p.1 p.2)
    (bmn : ∃ (c : Addr) (y : Obj), mg "__builtins__" = some (.ref c) ∧ c ≠ builtinsNs ∧ s₁.heap.get? c = some y ∧ y.cls = .type "module" ∧ y.dict = some builtinsNs ∧ y.data = .plain) (KX : K.In s₁.heap) (hns : s₁.heap.Ns mainGlobals mg)
    (hb : s₁.heap.Ns builtinsNs mb) (hbb : ∀ x : Str, x ≠ "__name__" → mb x = bootBuiltins x) (hlim : s₁.heap.NoLimit) (hg : s₁.gens = #[])
    (ha : s₁.heap.get? a = some { cls := .type "list", data := .seq vs.toArray }) (hi : PyProof.Rows.IntsAre vs ns) (hl : ns.length ≤ sizeLine) (hr : Room k callerA)
    (F : ∀ base : Heap, K.In base → base.Ns mainGlobals mg → (∀ p ∈ cs, TabB base mg p.1 p.2) → FnG P w K mg base CX k fa fd ["script"] sp) (bind : ∀ (s : Shared) (u : Value), BindsTo s fd ⟨[u], []⟩ [("script", u)])
    (hsp : ∀ H : Hp, (∀ p ∈ cs, H p.2 = some (.tbl #[])) → SqL K H a (ns.map V.int) → sp [.ref a] H (fun v _ => v = .bl true) fun _ _ _ => False) :
    codeAny (model P w) callerA (.call (.ref fa) ⟨[.ref a], []⟩) (fun r s' => r = .ok (.ret (.bool true)) ∧ PySem.OldK s₁.heap s'.heap ∧ s'.os = s₁.os ∧ AllBare s'.gens) s₁ := by
  have rv := vals_ints hi
  have lenV := hi.length
  -- the abstract heap: nothing, or the script, locked
  have go : ∀ H : Hp, (∀ b o, H b = some o → ((∃ p ∈ cs, b = p.2) ∧ o = .tbl #[]) ∨ (b = a ∧ K.lookup a = none ∧ o = .frz { cls := .type "list", data := .seq vs.toArray } (.lst (ns.map V.int)))) → (∀ p ∈ cs, H p.2 = some (.tbl #[])) → SqL K H a (ns.map V.int) →
      codeAny (model P w) callerA (.call (.ref fa) ⟨[.ref a], []⟩) (fun r s' => r = .ok (.ret (.bool true)) ∧ PySem.OldK s₁.heap s'.heap ∧ s'.os = s₁.os ∧ AllBare s'.gens) s₁ := by
    intro H hA hC hS
    have hok : HOk P w H s₁.heap := fun b o q => by
      rcases hA b o q with ⟨⟨p, hp, rfl⟩, rfl⟩ | ⟨rfl, _, rfl⟩
      · exact tz p hp
      exact ⟨ha, by rw [List.length_map]; exact hl, vs, _, rv, ha⟩
    have low : ∀ {b : Addr} {o : Obj}, s₁.heap.get? b = some o → H b = none → (hidT s₁.heap H).get? b = some o := fun e n => hidT_get e n
    have free : ∀ {b : Addr} {o : Obj}, s₁.heap.get? b = some o → (∀ its n, o.data ≠ .seq its n) → o.data ≠ .fields #[] → H b = none := fun {b o} e d d2 => by
      cases q : H b with
      | none => rfl
      | some u =>
        rcases hA b u q with ⟨⟨p, hp, rfl⟩, _⟩ | ⟨rfl, _⟩
        · rw [tz p hp] at e
          cases e
          exact absurd rfl d2
        · rw [ha] at e
          cases e
          exact absurd rfl (d _ _)
    have nsT : ∀ {b : Addr} {m : Str → Option Value}, s₁.heap.Ns b m → (hidT s₁.heap H).Ns b m := fun {b m} z => by
      obtain ⟨o, es, ep, e, d, r⟩ := z
      exact ⟨o, es, ep, low e (free e (fun its n y => by rw [d] at y; cases y) fun y => by rw [d] at y; cases y), d, r⟩
    have kT : K.In (hidT s₁.heap H) := fun b o e => by
      refine low (KX b o e) ?_
      cases q : H b with
      | none => rfl
      | some u =>
        rcases hA b u q with ⟨⟨p, hp, rfl⟩, _⟩ | ⟨rfl, z, _⟩
        · rw [tn p hp] at e
          cases e
        · rw [z] at e
          cases e
    have hM : Mod K mg (hidT s₁.heap H) := by
      obtain ⟨mc, h1, h2⟩ := hlim
      exact ⟨kT, nsT hns, ⟨mb, nsT hb, hbb⟩, ⟨mc, nsT h1, h2⟩⟩
    have hT : ∀ p ∈ cs, TabB (hidT s₁.heap H) mg p.1 p.2 := fun p hp => by
      have tp := tz p hp
      refine ⟨?_, ?_, fun z => ?_⟩
      · obtain ⟨y, q1, q2, q3, q4, q5, q6, q7, q8, g, c1, c2, c3, c4, c5, c6, c7, c8, c9⟩ := th p hp
        exact ⟨y, q1, q2, q3, q4, q5, q6, q7, q8, low g (free g (fun its n z => by rw [c2] at z; cases z) fun z => by rw [c2] at z; cases z; simp at c3), c1, c2, c3, c4, c5, c6, c7, c8, c9⟩
      · obtain ⟨c, y, g1, g2, g3, g4, g5, g6⟩ := bmn
        refine ⟨c, y, g1, g2, fun z => ?_, fun z => ?_, low g3 (free g3 (fun its n z => by rw [g6] at z; cases z) fun z => by rw [g6] at z; cases z), g4, g5, g6⟩
        · obtain ⟨_, _, _, ge, gd, _⟩ := hns
          rw [z, ge] at g3
          cases g3
          rw [gd] at g6
          cases g6
        · rw [z, tp] at g3
          cases g3
          cases g6
      · obtain ⟨_, _, _, ge, gd, _⟩ := hns
        rw [z, tp] at ge
        cases ge
        cases gd
    have e0 : Env0 P w K mg (hidT s₁.heap H) callerA [] s₁ H :=
      ⟨rfl, hM, fun b o e => of_hidT e, Nat.le_of_eq (hidT_size _ _), trivial, fun b hb => (nomatch hb), hok, .of_eq hg⟩
    have run := (F _ kT (nsT hns) hT).run callerA [] s₁ H ⟨[.ref a], []⟩ [.ref a] [.ref a] _ _ rfl hr e0 (bind s₁ (.ref a)) (.cons rfl .nil) (hsp H hC hS)
    refine codeAny_mono run fun r s' h => ?_
    cases r with
    | error e => exact (dcx H e s' h).elim
    | ok fl =>
      cases fl with
      | next => exact False.elim h
      | brk => exact False.elim h
      | cont => exact False.elim h
      | ret u =>
        obtain ⟨v, H', os, bare, un, hok', r', q⟩ := h
        obtain rfl : v = .bl true := q
        obtain rfl : u = Value.bool true := r'
        have kept : ∀ b o, (∀ p ∈ cs, b ≠ p.2) → s₁.heap.get? b = some o → s'.heap.get? b = some o := fun b o nb e => by
          cases q : H b with
          | none => exact un.keep b o e q (fun z => nomatch z) (fun z => nomatch z)
          | some u =>
            rcases hA b u q with ⟨⟨p, hp, rfl⟩, _⟩ | ⟨rfl, _, rfl⟩
            · exact absurd rfl (nb p hp)
            have z := un.frzs b _ _ q
            rw [ha] at e
            cases e
            exact (hok' b _ z).1
        have more : ∀ p ∈ cs, ∃ ys : Array Value, s'.heap.get? p.2 = some { cls := .none, data := .fields ys } := fun p hp => by
          obtain ⟨ys, z⟩ := un.tbls _ _ (hC p hp)
          exact ⟨_, hok' _ _ z⟩
        have split : ∀ b : Addr, (∃ p ∈ cs, b = p.2) ∨ ∀ p ∈ cs, b ≠ p.2 := fun b => by
          by_cases z : ∃ p ∈ cs, b = p.2
          · exact .inl z
          · exact .inr fun p hp e => z ⟨p, hp, e⟩
        refine ⟨rfl, ⟨fun b o e => ?_, fun b o e => ?_⟩, os, bare⟩
        · rcases split b with ⟨p, hp, rfl⟩ | nb
          · obtain ⟨ys, hys⟩ := more p hp
            rw [tz p hp] at e
            cases e
            exact .inr (.inl ⟨((th p hp).tab (tz p hp)).isCodeTable, rfl, #[], ys, rfl, by rw [hys, Array.empty_append]⟩)
          · exact .inl (kept b o nb e)
        · rcases split b with ⟨p, hp, rfl⟩ | nb
          · obtain ⟨ys, hys⟩ := more p hp
            exact ⟨_, hys⟩
          · exact ⟨o, kept b o nb e⟩
  have aT : ¬ ∃ p ∈ cs, a = p.2 := fun ⟨p, hp, e⟩ => by
    have q := tz p hp
    rw [← e, ha] at q
    cases q
  cases hk : K.lookup a with
  | some o =>
    have e := KX a o hk
    rw [ha] at e
    cases e
    refine go (fun b => open Classical in if ∃ p ∈ cs, b = p.2 then some (.tbl #[]) else none) (fun b o z => ?_) (fun p hp => if_pos ⟨p, hp, rfl⟩) (.inr ⟨_, vs.toArray, _, hk, rfl, rfl, rfl, ?_, by simpa using rv⟩)
    · by_cases hb : ∃ p ∈ cs, b = p.2
      · exact .inl ⟨hb, by have q := (if_pos hb).symm.trans z; cases q; rfl⟩
      · have q := (if_neg hb).symm.trans z
        cases q
    · rw [List.size_toArray, lenV]
      exact hl
  | none =>
    refine go (fun b => open Classical in if ∃ p ∈ cs, b = p.2 then some (.tbl #[]) else if b = a then some (.frz { cls := .type "list", data := .seq vs.toArray } (.lst (ns.map V.int))) else none) (fun b o z => ?_) (fun p hp => if_pos ⟨p, hp, rfl⟩)
      (.inl (.inr ⟨_, (if_neg aT).trans (if_pos rfl)⟩))
    by_cases hb : ∃ p ∈ cs, b = p.2
    · exact .inl ⟨hb, by have q := (if_pos hb).symm.trans z; cases q; rfl⟩
    · have q := (if_neg hb).symm.trans z
      by_cases hb2 : b = a
      · exact .inr ⟨hb2, hk, (Option.some.inj ((if_pos hb2).symm.trans q)).symm⟩
      · have q2 := (if_neg hb2).symm.trans q
        cases q2
theorem walkGT {CX : World → CXT} {l : PySem.W.OpenLaw} {k : Nat} {q : Program} {loose : List Str} {XP : (Str → Option Value) → Heap → Prop} {YP : World → Heap → Prop} {d : DefRec} {K : Params → PySem.W.Frag} (hn : l.most = some 63) (hdf : d.params.defaults = [])
    (hr : Room k callerA) (hY : ∀ (w : World) (h : Heap), YP w h → (K w.params).In h)
    (dcx : ∀ (w : World) D s e s', CX w [] D s (fun _ _ _ => False) e s' → False)
    (F : ∀ (w : World) (mg : Str → Option Value) (fa : Addr) (h : Heap), YP w h → (K w.params).In h → h.Ns mainGlobals mg → mg d.name = some (.ref fa) →
      ∃ (fd : FuncData) (cs : List (Addr × Addr)) (sp : Sp), (∀ p ∈ cs, h.get? p.2 = some { cls := .none, data := .fields #[] } ∧ (K w.params).lookup p.2 = none ∧ PySem.W.CodeHd h p.1 p.2) ∧
        (∀ (H : Hp) (a : Addr) (ns : List Int), ns.length ≤ 63 → (∀ z ∈ ns, Builtin.Int.intBits z ≤ 1048576) → (∀ p ∈ cs, H p.2 = some (.tbl #[])) → SqL (K w.params) H a (ns.map V.int) → sp [.ref a] H (fun v _ => v = .bl true) fun _ _ _ => False) ∧
        (∀ (s : Shared) (u : Value), BindsTo s fd ⟨[u], []⟩ [("script", u)]) ∧
        ∀ base : Heap, (K w.params).In base → base.Ns mainGlobals mg → (∀ p ∈ cs, TabB base mg p.1 p.2) → FnG l.prog w (K w.params) mg base (CX w) k fa fd ["script"] sp) :
    PySem.W.WalkO q loose XP YP l.row.toRowW d [] (fun f vs => PySem.call f vs) := by
  refine Att.attach_callB hn hdf fun w s₀ s₁ mg mb fa o pm cd doc a vs ns G Y ho hd hcd hmg hobj hints hlen hbits hg => ?_
  have KX := hY w _ Y
  obtain ⟨fd, cs, sp, hcs, hsp, hb, hF⟩ := F w mg fa _ Y KX G.T.g hmg
  exact lawGT (fun D e s' => dcx w D s₁ e s') (fun p hp => (hcs p hp).1) (fun p hp => (hcs p hp).2.1) (fun p hp => (hcs p hp).2.2) G.T.bmain KX G.T.g G.T.b G.T.builtins G.T.nolimit hg hobj hints (Nat.le_trans hlen (by decide)) hr hF hb
    fun H hC hS => hsp H a ns hlen hbits hC hS
end
/-! ### rules of my own -/
section
variable {X : Cx}
/-- == of a list (a tuple) and an empty one -/
def rEqNil (K : PySem.W.Frag) : V → V → Hp → VK → Prop := fun x y H Q => ∃ (p q : Addr) (xs : List V), x = .ref p ∧ y = .ref q ∧ ((SqL K H p xs ∧ SqL K H q []) ∨ (SqT K H p xs ∧ SqT K H q [])) ∧ Q (.bl xs.isEmpty) H
theorem op_eqNil (hu : X.A.units < cLine) : OpR X (compareOp .Eq) (rEqNil X.K) := by
  intro pins s σ H x y v u Q I rx ry h
  obtain ⟨p, q, xs, rfl, rfl, hpq, k⟩ := h
  cases rx
  cases ry
  rcases hpq with ⟨h1, h2⟩ | ⟨h1, h2⟩
  · obtain ⟨its, r, pl, hz⟩ := I.list h1
    obtain ⟨its2, r2, pl2, hz2⟩ := I.list h2
    cases r2
    have hl := r.length
    cases xs with
    | nil =>
      cases r
      exact SeqAt.eq_listAt (e := fun _ => true) pl.isList pl2.isList rfl hu (fun j h1 _ => absurd h1 (Nat.not_lt_zero _)) ⟨.bl true, H, I, rfl, k⟩
    | cons a b =>
      refine SeqAt.eq_list_lengthsAt pl.isList pl2.isList ?_ hu ⟨.bl false, H, I, rfl, k⟩
      cases its with
      | nil => cases r
      | cons c d => simp
  · obtain ⟨its, r, pl, hz⟩ := I.tuple h1
    obtain ⟨its2, r2, pl2, hz2⟩ := I.tuple h2
    cases r2
    have e1 : s.heap.IsTuple p its.toArray := pl
    have e2 : s.heap.IsTuple q #[] := pl2
    refine SeqAt.eq_tupleAt (e := fun _ => true) e1 e2 hu (fun j _ h2 => absurd h2 (Nat.not_lt_zero _)) ⟨.bl xs.isEmpty, H, I, ?_, k⟩
    cases xs with
    | nil => cases r; rfl
    | cons a b =>
      cases its with
      | nil => cases r
      | cons c d =>
        show Value.bool _ = Value.bool false
        congr 1
/-- + of tuples, the left one not empty: some tuple of both -/
def rCatA1 (K : PySem.W.Frag) : V → V → Hp → VK → Prop := fun x y H Q => ∃ a b xs ys, x = .ref a ∧ y = .ref b ∧ SqT K H a xs ∧ H a = some (.tup xs) ∧ SqT K H b ys ∧ xs.length + ys.length ≤ sizeLine ∧ xs ≠ [] ∧
  ∀ p H', (∀ b o, H b = some o → H' b = some o) → H' p = some (.tup (xs ++ ys)) → Q (.ref p) H'
theorem op_catA1 : OpR X (binaryOp .Add) (rCatA1 X.K) := by
  intro pins s σ H x y v u Q I rx ry h
  obtain ⟨a, b, xs, ys, rfl, rfl, h1, h1', h2, hz, hne, q⟩ := h
  refine op_catA pins s σ H _ _ v u Q I rx ry ⟨a, b, xs, ys, rfl, rfl, h1, h2, hz, fun e => absurd e hne, fun _ e => ?_, fun _ _ p hp => ?_⟩
  · subst e
    exact q a H (fun _ _ h => h) (by rw [List.append_nil]; exact h1')
  · exact q p _ (fun b o e => by rw [upd_ne (ne_of_none e hp)]; exact e) upd_same
theorem call_repr_bool : CallR X (.builtin "repr") (fun xs H Q => ∃ b, xs = [.bl b] ∧ Q (.str (if b then "True" else "False")) H) := by
  intro pins s σ H xs us Q I r h
  obtain ⟨b, rfl, q⟩ := h
  obtain ⟨u, rfl, rfl⟩ := vals1 r
  exact PySem.P.repr_of_bool ⟨.str _, H, I.tok _, ⟨_, rfl⟩, q⟩
end

/-- a thing and its built-in kind -/
inductive Kd (H : Hp) : V → String → Prop where
  | non : Kd H .non "NoneType"
  | bl (b : Bool) : Kd H (.bl b) "bool"
  | int (i : Int) : Kd H (.int i) "int"
  | str (z : Str) (h : z.length ≤ 1000) : Kd H (.str z) "str"
  | lst {a : Addr} {xs : List V} (e : H a = some (.lst xs)) : Kd H (.ref a) "list"
  | tup {a : Addr} {xs : List V} (e : H a = some (.tup xs)) : Kd H (.ref a) "tuple"
  | dK {a : Addr} {kvs : List (Key × V)} (e : H a = some (.dK kvs)) : Kd H (.ref a) "dict"
theorem Kd.ty {K : PySem.W.Frag} {H : Hp} {v : V} {n : String} (h : Kd H v n) : TyX K H v (.type n) := by
  cases h with
  | non => exact .base .non
  | bl b => exact .base (.bl b)
  | int i => exact .base (.int i)
  | str z h => exact .base (.str z)
  | lst e => exact .base (.lst e)
  | tup e => exact .base (.tup e)
  | dK e => exact .base (.dK e)
theorem Kd.same {H H' : Hp} {v : V} {n : String} (h : Kd H v n) (s : Same H H') : Kd H' v n := by
  cases h with
  | non => exact .non
  | bl b => exact .bl b
  | int i => exact .int i
  | str z h => exact .str z h
  | lst e => exact .lst (s _ _ e)
  | tup e => exact .tup (s _ _ e)
  | dK e => exact .dK (s _ _ e)
theorem _root_.L2.Same.seqT {K : PySem.W.Frag} {H H' : Hp} {a : Addr} {xs : List V} (e : Same H H') (h : SqT K H a xs) : SqT K H' a xs := by
  rcases h with (h | ⟨o, h⟩) | h
  · exact .inl (.inl (e _ _ h))
  · exact .inl (.inr ⟨o, e _ _ h⟩)
  · exact .inr h
/-- a written tuple -/
def isTupV (oc : Value) (d : PySem.Data) (xs : List V) : Bool := match oc, d with
  | .type n, .seq its _ => (n == "tuple") && decide (its.size ≤ 1000) && decide (its.toList.map absV = xs.map some)
  | _, _ => false
theorem vals_of_abs : ∀ {xs : List V} {us : List Value}, us.map absV = xs.map some → Vals xs us
  | [], [], _ => .nil
  | [], _ :: _, h => by cases h
  | _ :: _, [], h => by cases h
  | x :: xs, u :: us, h => by
    rw [List.map_cons, List.map_cons] at h
    injection h with h1 h2
    refine .cons ?_ (vals_of_abs h2)
    cases u <;> simp only [absV, Option.some.injEq, reduceCtorEq] at h1 <;> subst h1 <;> first | rfl | exact ⟨_, rfl⟩
theorem sqT_written {K : PySem.W.Frag} {H : Hp} {a : Addr} {oc : Value} {od : Option Addr} {d : PySem.Data} {sl : Array (Option Value)} {xs : List V} (l : K.lookup a = some ⟨oc, od, d, sl⟩) (h : isTupV oc d xs = true) : SqT K H a xs := by
  unfold isTupV at h
  split at h
  · simp only [Bool.and_eq_true, beq_iff_eq, decide_eq_true_eq] at h
    obtain ⟨⟨h1, h2⟩, h3⟩ := h
    subst h1
    exact .inr ⟨_, _, _, l, rfl, rfl, Nat.le_trans h2 (by decide), vals_of_abs h3⟩
  · cases h

/-! ### counts -/
abbrev sCount : Stmt := top 2
def isCount : V → Bool
  | .int i => decide (0 ≤ i)
  | _ => false
structure MTxt (K : PySem.W.Frag) (mg : Str → Option Value) : Prop where
  isi : mg "isinstance" = none
  int : mg "int" = none
  bool : mg "bool" = none
def spCount : Sp := fun vs H Q _ => ∃ (v : V) (n : String), vs = [v] ∧ Kd H v n ∧ Q (.bl (isCount v)) H
section
variable {P : Program} {w : World} {K : PySem.W.Frag} {mg : Str → Option Value} {base : Heap}
theorem scCount : FnScope ["value"] ["value"] (defScope sCount) := ⟨rfl, rfl, rfl, by decide +kernel, rfl, by decide +kernel, by decide +kernel⟩
theorem ok_count {f : Addr} {fd : FuncData} (F : Fun K "is_count" "is_count" sCount f fd) (T : MTxt K mg) : FnOk P w K mg base CX0 1 f fd ["value"] spCount := by
  refine F.ok scCount (fun vs H Q E h => ?_) (fun cdv A outer s H vs Q E hr h => ?_)
  · obtain ⟨v, n, rfl, _⟩ := h
    rfl
  · obtain ⟨v, n, rfl, hk, k⟩ := h
    refine ⟨_, pss_one (ps_ret (pe_and (pe_callB call_isi (by rfl) T.isi (by decide +kernel) (pa_cons (pv 0) (pa_cons (pe_bltn (v := .ty "int") (by rfl) T.int (by decide +kernel) rfl) pa_nil)))
      (pe_and (pe_not (pe_callB call_isi (by rfl) T.isi (by decide +kernel) (pa_cons (pv 0) (pa_cons (pe_bltn (v := .ty "bool") (by rfl) T.bool (by decide +kernel) rfl) pa_nil)))) (pe_one (pe_cmpR op_ge (pv 0) pe_int (nomark _)))))), ?_⟩
    have ty : TyX K H v (.type n) := hk.ty
    cases hk with
    | int i => exact ⟨_, rfl, _, _, _, _, true, rfl, .ty _, ty, kit_ty (by decide +kernel), _, rfl, iteT ⟨_, rfl, _, _, _, _, false, rfl, .ty _, ty, kit_ty (by decide +kernel), _, rfl, _, rfl, iteT ⟨_, rfl, _, _, rfl, rfl, k⟩⟩⟩
    | bl b => exact ⟨_, rfl, _, _, _, _, true, rfl, .ty _, ty, kit_ty (by decide +kernel), _, rfl, iteT ⟨_, rfl, _, _, _, _, true, rfl, .ty _, ty, kit_ty (by decide +kernel), _, rfl, _, rfl, iteF k⟩⟩
    | non => exact ⟨_, rfl, _, _, _, _, false, rfl, .ty _, ty, kit_ty (by decide +kernel), _, rfl, iteF k⟩
    | str z hz => exact ⟨_, rfl, _, _, _, _, false, rfl, .ty _, ty, kit_ty (by decide +kernel), _, rfl, iteF k⟩
    | lst e => exact ⟨_, rfl, _, _, _, _, false, rfl, .ty _, ty, kit_ty (by decide +kernel), _, rfl, iteF k⟩
    | tup e => exact ⟨_, rfl, _, _, _, _, false, rfl, .ty _, ty, kit_ty (by decide +kernel), _, rfl, iteF k⟩
    | dK e => exact ⟨_, rfl, _, _, _, _, false, rfl, .ty _, ty, kit_ty (by decide +kernel), _, rfl, iteF k⟩
end
/-! ### == and != by an own __eq__ -/
section
variable {prog : Program} {w : World} {A : Around} {E : Value → Shared → Prop} {s : Shared} {K : PySem.W.Frag} {x C f : Addr} {ox : Obj} {od : Option Obj} {name : Str} {y : Addr}
/-- x.name(..), the name's def a built-in slot -/
theorem ifBound_B {M : Model} {B : String} {id : String} {args : List Value} {Q : Option Value → Shared → Prop} (X : K.In s.heap) (I : PySem.W.InstAt s.heap x ox C od) (hs : PySem.W.findIn K (.ref C) name = some (some (.builtin id))) (S : Slot B name id)
    (h : wpAny M A (call (.builtin id) (.ref x :: args)) (fun v => Q (some v)) E s) : wpAny M A (callSpecialIfBound? (.ref x) name args) Q E s := by
  simp only [callSpecialIfBound?, bindSpecialIfBound?]
  refine wpAny_holding (wpAny_bind (wpAny_bind (wpAny_bind (I.type.here ((PySem.W.looks_findIn X hs).here ?_)))))
  simp only [S.bind]
  refine wpAny_bind (wpAny_askSetting (wpAny_ite ?_))
  have fin : wpAny M A (call (.builtin id) ([.ref x] ++ args) >>= fun v => pure (some v)) Q E s :=
    wpAny_bind (wpAny_mono h (fun v s' h' => wpAny_pure h') fun _ _ h' => h')
  split
  · exact wpAny_bind (wpAny_pure (wpAny_pure fin))
  · exact wpAny_tryCatch (wpAny_bind (wpAny_pure (wpAny_pure fin)))
theorem objNe_K {Q : Fin → Shared → Prop} (hu : A.units < cLine) (X : K.In s.heap) (I : PySem.W.InstAt s.heap x ox C od) (hs : PySem.W.findIn K (.ref C) "__eq__" = some (some (.ref f))) (hf : PySem.W.isFn K (.ref f) = true)
    (hcall : wpAny (model prog w) A (call (.ref f) [.ref x, .ref y]) (fun v s' => ∃ b, v = .bool b ∧ Q (.done (.ret (.bool (!b)))) s') E s) :
    wpAny (model prog w) A (Builtin.«object.__ne__» ⟨[.ref x, .ref y], []⟩) Q E s := by
  unfold Builtin.«object.__ne__»
  repeat (first
    | with_reducible refine wpAny_cRoomFor hu ?_
    | (refine wpAny_bind (m := callSpecialIfBound? (.ref x) (Str.ofString "__eq__") [.ref y])
        (PySem.W.ifBound_K X I hs hf (wpAny_mono hcall (fun r s' hr => by
          obtain ⟨b, rfl, hq⟩ := hr
          repeat (first | exact hq | exact wpAny_pure hq | exact wpAny_truthy_bool hq | (refine wpAny_bind (m := truthy (.bool _)) (wpAny_truthy_bool ?_)) | wp_step)) fun _ _ e => e)))
    | wp_step)
/-- the class, as != asks of it -/
structure NeC (K : PySem.W.Frag) (C : Addr) : Prop where
  ne : PySem.W.findIn K (.ref C) "__ne__" = some (some (.builtin "object.__ne__"))
  cls : ∃ nm q N bs hdct sn sub ab col dd k0 k1 k2 k3 k5 newId, K.lookup C = some (excClassObj nm q C N bs [.type "object"] hdct sn sub ab col dd k0 k1 k2 k3 k5 newId)
theorem richNe_K {oy : Obj} {Q : Value → Shared → Prop} (hu : A.units + 1 < cLine) (X : K.In s.heap) (T : NeC K C) (I : PySem.W.InstAt s.heap x ox C od) (hy : s.heap.get? y = some oy) (hyc : oy.cls = .ref C)
    (hs : PySem.W.findIn K (.ref C) "__eq__" = some (some (.ref f))) (hf : PySem.W.isFn K (.ref f) = true)
    (hcall : wpAny (model prog w) A.in1 (call (.ref f) [.ref x, .ref y]) (fun v s' => ∃ b, v = .bool b ∧ Q (.bool (!b)) s') E s) :
    wpAny (model prog w) A (richCompare .NotEq (.ref x) (.ref y)) Q E s := by
  obtain ⟨nm, q, N, bs, hdct, sn, sub, ab, col, dd, k0, k1, k2, k3, k5, newId, hC⟩ := T.cls
  have hx := I.at_
  have hc := I.cls
  have one : wpAny (model prog w) A (tryCompare (.ref x) "__ne__" (.ref y)) (fun r s' => ∃ v, r = some v ∧ Q v s') E s := by
    simp only [tryCompare]
    refine wpAny_bind (ifBound_B X I T.ne PySem.F.cmp_object.ne (wpAny_call (codeAny_call_builtin PySem.F.cmp_object.ne.plain PySem.F.cmpEntry_ne
      (wpAny_check_slot_inst (h := s.heap) (g := s.gens) (d := s.drawn) (t := s.toks) (os := s.os) PySem.F.cmpKind_ne PySem.F.cmpSplit_ne (PySem.F.cmpArgs_ne _ _) PySem.F.cmp_object.hasObject hx hc (X _ _ hC)
        (objNe_K (A := A.in1) hu X I hs hf (wpAny_mono hcall (fun v s' hv => ?_) fun _ _ e => e))))))
    obtain ⟨b, rfl, hq⟩ := hv
    first | exact ⟨b, rfl, _, rfl, hq⟩ | exact ⟨b, rfl, wpAny_pure ⟨_, rfl, hq⟩⟩ | exact ⟨b, rfl, wpAny_pure (wpAny_pure ⟨_, rfl, hq⟩)⟩
  unfold richCompare
  simp only [oneThing_ref]
  refine wpAny_holding ?_
  refine wpAny_bind (wpAny_cRoomFor (Nat.lt_of_succ_lt hu) ?_)
  rw [cmpInfo_NotEq]
  dsimp only
  refine wpAny_bind (wpAny_typeOf_ref hx ?_)
  rw [hc]
  refine wpAny_bind (wpAny_typeOf_ref hy ?_)
  rw [hyc]
  rw [show (Value.ref C != Value.ref C) = false from by simp]
  simp only [Bool.false_eq_true, if_false]
  refine wpAny_bind (wpAny_pure ?_)
  simp only [Bool.false_eq_true, if_false]
  refine wpAny_bind (wpAny_mono one (fun r s' hv => ?_) fun _ _ e => e)
  obtain ⟨b, rfl, hq⟩ := hv
  first | exact wpAny_pure hq | exact wpAny_pure (wpAny_pure hq)
end
/-- a value's kind, as == asks: an instance of the class, a text, a tuple -/
inductive EqR (H : Hp) (C : Addr) : V → Prop where
  | ins {b dy : Addr} {gs : List (Str × V)} (e : H b = some (.ins C dy gs)) : EqR H C (.ref b)
  | str (z : Str) : EqR H C (.str z)
  | tup {b : Addr} {xs : List V} (e : H b = some (.tup xs)) : EqR H C (.ref b)
/-- the class, as == asks of it -/
structure EqC (K : PySem.W.Frag) (C f : Addr) : Prop where
  eq : PySem.W.findIn K (.ref C) "__eq__" = some (some (.ref f))
  fn : PySem.W.isFn K (.ref f) = true
  n1 : PySem.W.notFirst K C (.ref C) = true
  n2 : PySem.W.notFirst K C (.type "str") = true
  n3 : PySem.W.notFirst K C (.type "tuple") = true
def rEqO (C : Addr) (sp : Sp) (E : XK) : R2 := fun x y H Q => ∃ a dx fs, x = .ref a ∧ H a = some (.ins C dx fs) ∧ EqR H C y ∧ sp [x, y] H Q E
def rNeO (C : Addr) (sp : Sp) (E : XK) : R2 := fun x y H Q => ∃ a dx fs b dy gs, x = .ref a ∧ y = .ref b ∧ H a = some (.ins C dx fs) ∧ H b = some (.ins C dy gs) ∧ sp [x, y] H (fun z H' => ∃ k, z = .bl k ∧ Q (.bl (!k)) H') E
section
variable {X : Cx} {CX : CXT} {n : Nat} {f C : Addr} {fd : FuncData} {ps : List Str} {sp : Sp} {E : XK}
theorem op_eqO (F : FnOk X.prog X.w X.K X.mg X.base CX n f fd ps sp) (T : EqC X.K C f) (hb : Binds X.K fd ps []) (hr : Room n X.A) (hx : Passes CX X E) : OpR X (compareOp .Eq) (rEqO C sp E) := by
  intro pins s σ H x y v u Q I rx ry h
  obtain ⟨a, dx, fs, rfl, ha, hy, hsp⟩ := h
  cases rx
  obtain ⟨mA, J, _⟩ := ins_get I.hok ha
  obtain ⟨od, J, _⟩ := J.look
  obtain ⟨m, hF⟩ := I.fr
  have hl := F.len _ _ _ _ hsp
  have run : wpAny (model X.prog X.w) X.A (call (.ref f) [.ref a, u]) (PySem.W.CmpBack (EP X pins σ Q)) X.xe s := by
    have r2 : Vals [V.ref a, y] [Value.ref a, u] := .cons rfl (.cons ry .nil)
    refine wpAny_call (codeAny_mono (F.run X.A X.stack s H ⟨[.ref a, u], []⟩ [.ref a, u] [.ref a, y] Q E hr I.env0 (by
      have := hb s [.ref a, u] I.kIn (by simpa using hl)
      simpa using this) r2 hsp) fun r s' hq => ?_)
    cases r with
    | error e => exact hx pins σ H s e s' I hq
    | ok fl =>
      cases fl with
      | ret w =>
        obtain ⟨z, H', I', rz, qz⟩ := I.after hq
        exact SlX.cmpback rz ⟨z, H', I', rz, qz⟩
      | next => exact False.elim hq
      | brk => exact False.elim hq
      | cont => exact False.elim hq
  show wpAny (model X.prog X.w) X.A (richCompare .Eq (.ref a) u) (EP X pins σ Q) X.xe s
  cases hy with
  | ins e =>
    cases ry
    obtain ⟨mB, J', _⟩ := ins_get I.hok e
    obtain ⟨od', J', _⟩ := J'.look
    exact PySem.W.cmp_K (op := .Eq) (tb := .ref C) hr.units0 hF I.ok.mod.kin J J'.type T.n1 T.eq T.fn run
  | str z =>
    obtain ⟨t, rfl⟩ := ry
    exact PySem.W.cmp_K (op := .Eq) (tb := .type "str") hr.units0 hF I.ok.mod.kin J (PySem.W.kitx_str.ty _ _ I.kIn True.intro) T.n2 T.eq T.fn run
  | tup e =>
    cases ry
    obtain ⟨its, r, ⟨o, ho, hc, n, hd⟩, hs⟩ := I.tuple (X := X) (.inl (.inl e))
    exact PySem.W.cmp_K (op := .Eq) (tb := .type "tuple") hr.units0 hF I.ok.mod.kin J (PySem.W.kitx_tuple.ty _ _ I.kIn ⟨_, ho, hc⟩) T.n3 T.eq T.fn run
theorem op_neO (F : FnOk X.prog X.w X.K X.mg X.base CX n f fd ps sp) (T : EqC X.K C f) (N : NeC X.K C) (hb : Binds X.K fd ps []) (hr : Room (n + 1) X.A) (hx : Passes CX X E) : OpR X (compareOp .NotEq) (rNeO C sp E) := by
  intro pins s σ H x y v u Q I rx ry h
  obtain ⟨a, dx, fs, b, dy, gs, rfl, rfl, ha, hbb, hsp⟩ := h
  cases rx
  cases ry
  obtain ⟨mA, J, _⟩ := ins_get I.hok ha
  obtain ⟨od, J, _⟩ := J.look
  obtain ⟨mB, J', _⟩ := ins_get I.hok hbb
  obtain ⟨od', J', _⟩ := J'.look
  have hl := F.len _ _ _ _ hsp
  show wpAny (model X.prog X.w) X.A (richCompare .NotEq (.ref a) (.ref b)) (EP X pins σ Q) X.xe s
  refine richNe_K (by have := hr.un; omega) I.kIn N J J'.at_ J'.cls T.eq T.fn ?_
  have r2 : Vals [V.ref a, V.ref b] [Value.ref a, Value.ref b] := .cons rfl (.cons rfl .nil)
  refine wpAny_call (codeAny_mono (F.run X.A.in1 X.stack s H ⟨[.ref a, .ref b], []⟩ [.ref a, .ref b] [.ref a, .ref b] _ E hr.in1 I.env0.in1 (by
    have := hb s [.ref a, .ref b] I.kIn (by simpa using hl)
    simpa using this) r2 hsp) fun r s' hq => ?_)
  cases r with
  | error e => exact hx pins σ H s e s' I hq
  | ok fl =>
    cases fl with
    | ret w =>
      obtain ⟨z, H', I', rz, k, ez, qz⟩ := I.after hq
      subst ez
      cases rz
      exact ⟨k, rfl, .bl (!k), H', I', rfl, qz⟩
    | next => exact False.elim hq
    | brk => exact False.elim hq
    | cont => exact False.elim hq
end
/-! ### len, item reading and `in` by own methods -/
section
variable {X : Cx} {CX : CXT} {n : Nat} {f C : Addr} {fd : FuncData} {ps : List Str} {sp : Sp} {E : XK} {pins : List (Addr × Obj)} {s : Shared} {σ : L2.St} {H : Hp} {xs : List V} {us : List Value} {Q : VK} {R : Value → Shared → Prop}
theorem run_at0 (F : FnOk X.prog X.w X.K X.mg X.base CX n f fd ps sp) (hb : Binds X.K fd ps []) (hr : Room n X.A) (hx : Passes CX X E) (I : Inv X pins σ H s) (r : Vals xs us) (h : sp xs H Q E)
    (k : ∀ w s' z H', Inv X pins σ H' s' → RelV z w → Q z H' → R w s') : wpAny (model X.prog X.w) X.A (call (.ref f) us) R X.xe s := by
  have hl := F.len _ _ _ _ h
  have hu := r.length
  refine wpAny_call (codeAny_mono (F.run X.A X.stack s H ⟨us, []⟩ us xs Q E hr I.env0 (by
      have := hb s us I.kIn (by first | omega | (simp; omega))
      simpa using this) r h) fun r' s' hq => ?_)
  cases r' with
  | error e => exact hx pins σ H s e s' I hq
  | ok fl =>
    cases fl with
    | ret w =>
      obtain ⟨z, H', I', rz, qz⟩ := I.after hq
      exact k w s' z H' I' rz qz
    | next => exact False.elim hq
    | brk => exact False.elim hq
    | cont => exact False.elim hq
theorem run_in1 (F : FnOk X.prog X.w X.K X.mg X.base CX n f fd ps sp) (hb : Binds X.K fd ps []) (hr : Room (n + 1) X.A) (hx : Passes CX X E) (I : Inv X pins σ H s) (r : Vals xs us) (h : sp xs H Q E)
    (k : ∀ w s' z H', Inv X pins σ H' s' → RelV z w → Q z H' → R w s') : wpAny (model X.prog X.w) X.A.in1 (call (.ref f) us) R X.xe s := by
  have hl := F.len _ _ _ _ h
  have hu := r.length
  refine wpAny_call (codeAny_mono (F.run X.A.in1 X.stack s H ⟨us, []⟩ us xs Q E hr.in1 I.env0.in1 (by
      have := hb s us I.kIn (by first | omega | (simp; omega))
      simpa using this) r h) fun r' s' hq => ?_)
  cases r' with
  | error e => exact hx pins σ H s e s' I hq
  | ok fl =>
    cases fl with
    | ret w =>
      obtain ⟨z, H', I', rz, qz⟩ := I.after hq
      exact k w s' z H' I' rz qz
    | next => exact False.elim hq
    | brk => exact False.elim hq
    | cont => exact False.elim hq
/-- len(o) -/
def rLenO (C : Addr) (sp : Sp) (E : XK) : List V → Hp → VK → Prop := fun xs H Q => ∃ x dx fs, xs = [.ref x] ∧ H x = some (.ins C dx fs) ∧ sp [.ref x] H (fun z H' => ∃ k : Int, z = .int k ∧ 0 ≤ k ∧ k < 2 ^ 63 ∧ Q (.int k) H') E
theorem call_lenO (F : FnOk X.prog X.w X.K X.mg X.base CX n f fd ps sp) (hs : PySem.W.findIn X.K (.ref C) "__len__" = some (some (.ref f))) (hf : PySem.W.isFn X.K (.ref f) = true) (hb : Binds X.K fd ps []) (hr : Room (n + 1) X.A) (hx : Passes CX X E) :
    CallR X (.builtin "len") (rLenO C sp E) := by
  intro pins s σ H xs us Q I r h
  obtain ⟨x, dx, fs, rfl, hX, hsp⟩ := h
  obtain ⟨u, rfl, ru⟩ := vals1 r
  cases ru
  obtain ⟨mA, J, _⟩ := ins_get I.hok hX
  obtain ⟨od, J, _⟩ := J.look
  obtain ⟨m, hF⟩ := I.fr
  refine PySem.W.len_K hF I.ok.mod.kin J hs hf (run_in1 F hb hr hx I (.cons (show RelV (V.ref x) (Value.ref x) from rfl) .nil) hsp fun w s' z H' I' rz q => ?_)
  obtain ⟨k, rfl, h0, h1, q⟩ := q
  obtain ⟨t, rfl⟩ := rz
  exact ⟨⟨h0, h1⟩, .int k, H', I'.tok _, ⟨_, rfl⟩, q⟩
/-- o[i] -/
def rIxO (C : Addr) (sp : Sp) (E : XK) : R2 := fun x y H Q => ∃ a dx fs, x = .ref a ∧ H a = some (.ins C dx fs) ∧ sp [.ref a, y] H Q E
theorem pe_ixO {a b : Expr} {ta tb : TE} {pos : Pos} (F : FnOk X.prog X.w X.K X.mg X.base CX n f fd ps sp) (hs : PySem.W.findIn X.K (.ref C) "__getitem__" = some (some (.ref f))) (hf : PySem.W.fnIn X.K f = true) (hfn : PySem.W.isFn X.K (.ref f) = true) (hb : Binds X.K fd ps [])
    (hr : Room (n + 1) X.A) (hx : Passes CX X E) (ha : PE X a ta) (hi : PE X b tb) (hsl : ∀ o i, subscripted b true (.ref o) i = runValue (.builtin "lifetime.subscript" ⟨[.ref o, i], []⟩)) : PE X (.Subscript a b pos) (tOp (rIxO C sp E) ta tb) := by
  refine ⟨fun pins s σ H Q I h => ?_⟩
  refine Subscript_ (binT ha hi I h fun v u s2 x y H2 I2 rx ry q => ?_)
  obtain ⟨p, dx, fs, rfl, hX, hsp⟩ := q
  cases rx
  obtain ⟨mA, J, _⟩ := ins_get I2.hok hX
  obtain ⟨od, J, _⟩ := J.look
  obtain ⟨m, hF⟩ := I2.fr
  exact PySem.W.sub_K hF I2.ok.mod.kin J hs hf hfn (run_in1 F hb hr hx I2 (.cons (show RelV (V.ref p) (Value.ref p) from rfl) (.cons ry .nil)) hsp fun w s' z H' I' rz q => ⟨z, H', I', rz, q⟩) (hsl _ _)
/-- v in o -/
def rInO (C : Addr) (sp : Sp) (E : XK) : R2 := fun x y H Q => ∃ a dx fs, y = .ref a ∧ H a = some (.ins C dx fs) ∧ sp [.ref a, x] H (fun z H' => ∃ k, z = .bl k ∧ Q (.bl k) H') E
theorem op_inO (F : FnOk X.prog X.w X.K X.mg X.base CX n f fd ps sp) (hs : PySem.W.findIn X.K (.ref C) "__contains__" = some (some (.ref f))) (hfn : PySem.W.isFn X.K (.ref f) = true) (hb : Binds X.K fd ps []) (hr : Room n X.A) (hx : Passes CX X E) : OpR X (compareOp .In) (rInO C sp E) := by
  intro pins s σ H x y v u Q I rx ry h
  obtain ⟨a, dx, fs, rfl, hX, hsp⟩ := h
  cases ry
  obtain ⟨mA, J, _⟩ := ins_get I.hok hX
  obtain ⟨od, J, _⟩ := J.look
  obtain ⟨m, hF⟩ := I.fr
  refine PySem.W.in_K hF I.ok.mod.kin J hs hfn (run_at0 F hb hr hx I (.cons (show RelV (V.ref a) (Value.ref a) from rfl) (.cons rx .nil)) hsp fun w s' z H' I' rz q => ?_)
  obtain ⟨k, rfl, q⟩ := q
  cases rz
  exact wpAny_truthy_bool ⟨.bl k, H', I', rfl, q⟩
end
abbrev sHInit : Stmt := inClass (top 6) 0
/-- self.f = v, self a new exception -/
def spInitE (K : PySem.W.Frag) (f : Str) : Sp := fun vs H Q _ => ∃ (a C : Addr) (v : V), vs = [.ref a, v] ∧ ExvC K C ∧ PySem.W.findIn K (.ref C) f = some none ∧ H a = some (exo a C none) ∧
  ∀ dx, H dx = none → dx ≠ a → Q .non (upd (upd H dx (exd dx [(f, v)])) a (exo a C (some dx)))
section
variable {P : Program} {w : World} {K : PySem.W.Frag} {mg : Str → Option Value} {base : Heap}
theorem scH : FnScope ["self", "value"] ["self", "value"] (defScope sHInit) := ⟨rfl, rfl, rfl, by decide +kernel, rfl, by decide +kernel, by decide +kernel⟩
theorem ok_hinit {f : Addr} {fd : FuncData} (F : Fun K "__init__" "HandleError.__init__" sHInit f fd) : FnOk P w K mg base CX0 1 f fd ["self", "value"] (spInitE K "value") := by
  refine F.ok scH (fun vs H Q E h => ?_) (fun cdv A outer s H vs Q E hr h => ?_)
  · obtain ⟨a, C, v, rfl, _⟩ := h
    rfl
  · obtain ⟨a, C, v, rfl, T, hno, ea, k⟩ := h
    refine ⟨_, pss_one (ps_stx (pv 0) (pv 1)), ?_⟩
    exact ⟨_, rfl, _, rfl, a, C, rfl, T, hno, ea, fun dx n ne => k dx n ne⟩
end

/-! ### the errors that the package raises -/
structure ErrC (K : PySem.W.Frag) (mg : Str → Option Value) (x : Str) (C fI : Addr) : Prop where
  g : mg x = some (.ref C)
  ox : OexC K C
  ev : ExvC K C
  i : PySem.W.findIn K (.ref C) "__init__" = some (some (.ref fI))
  t : PySem.W.typeIn K (.ref fI) = some (.type "function")
  no : PySem.W.findIn K (.ref C) "value" = some none
/-- an error of C with this value is let out -/
def Bad (E : XK) (H : Hp) (C : Addr) (v : V) : Prop := ∀ d H', Same H H' → H' d = some (.xd [("value", v)]) → E (.ref C) (some d) H'
theorem Bad.imp {E : XK} {H H' : Hp} {C : Addr} {v : V} (b : Bad E H C v) (s : Same H H') : Bad E H' C v := fun d H2 s2 e => b d H2 (s.trans s2) e
/-- what is asked ahead of a raise of C(v) -/
theorem raise_ok {K : PySem.W.Frag} {mg : Str → Option Value} {x : Str} {C fI : Addr} {H : Hp} {v : V} {E : XK} (e : ErrC K mg x C fI) (b : Bad E H C v) : ∀ a, H a = none →
    spInitE K "value" (.ref a :: ([v] ++ [])) (upd H a (exo a C none)) (fun u H2 => u = .non ∧ ∃ (d : Addr) (fs : List (Str × V)), H2 a = some (exo a C (some d)) ∧ H2 d = some (exd d fs) ∧ H d = none ∧ E (.ref C) (some d) (upd (del H2 a) d (.xd fs))) (fun _ _ _ => False) := by
  intro a ha
  refine ⟨a, C, v, rfl, e.ev, e.no, upd_same, fun dx n ne => ⟨rfl, dx, _, upd_same, ?_, ?_, b dx _ ?_ upd_same⟩⟩
  · rw [upd_ne ne, upd_same]
  · rw [upd_ne ne] at n
    exact n
  · intro b' u q
    have n1 : b' ≠ a := ne_of_none q ha
    have n2 : b' ≠ dx := fun z => by
      rw [z] at q
      rw [upd_ne ne, q] at n
      cases n
    rw [upd_ne n2, del_ne n1, upd_ne n1, upd_ne n2, upd_ne n1]
    exact q
def SameX (x : Addr) (H H' : Hp) : Prop := ∀ b u, b ≠ x → H b = some u → H' b = some u
/-- o.f, as a def that is called -/
def spGet (K : PySem.W.Frag) (f : Str) : Sp := fun vs H Q _ => ∃ (x C dx : Addr) (fs : List (Str × V)) (v : V), vs = [.ref x] ∧ H x = some (.ins C dx fs) ∧ Cls K C ∧ NoAttr K C f ∧ fs.lookup f = some v ∧ Q v H
theorem intlen {m : Int} (h0 : 0 ≤ m) (h1 : m < 10 ^ 40) : (Str.ofString (toString m)).length ≤ 40 ∧ m.natAbs.log2 < 1920 := by
  refine ⟨numlen h0 h1, ?_⟩
  have h2 : m.natAbs < 2 ^ 140 := by
    have e : (10 : Int) ^ 40 ≤ 2 ^ 140 := by decide
    have e2 : ((2 ^ 140 : Nat) : Int) = (2 : Int) ^ 140 := by decide
    omega
  exact Nat.lt_trans (PySem.Flt.log2_lt_of (by decide) h2) (by decide)
theorem empty_add (z : Str) : Str.empty ++ z = z := by
  cases z with
  | mk a =>
    show Str.mk (#[] ++ a) = Str.mk a
    rw [Array.empty_append]
theorem len_add (a b : Str) : (a ++ b).length = a.length + b.length := by
  cases a with
  | mk a =>
    cases b with
    | mk b =>
      show (a ++ b).size = a.size + b.size
      exact Array.size_append
/-! ### indexes, bounds -/
abbrev sIndex : Stmt := top 3
abbrev sBetween : Stmt := top 4
def ltV (v : V) (m : Int) : Bool := match v with
  | .int i => decide (i < m)
  | _ => false
def inB (v : V) (lo hi : Int) : Bool := match v with
  | .int i => decide (lo ≤ i) && decide (i ≤ hi)
  | _ => false
def isIndex (v : V) (m : Int) : Bool := isCount v && ltV v m
def isBetween (v : V) (lo hi : Int) : Bool := isCount v && inB v lo hi
def spIndex : Sp := fun vs H Q _ => ∃ (v : V) (n : String) (m : Int), vs = [v, .int m] ∧ Kd H v n ∧ Q (.bl (isIndex v m)) H
def spBetween : Sp := fun vs H Q _ => ∃ (v : V) (n : String) (lo hi : Int), vs = [v, .int lo, .int hi] ∧ Kd H v n ∧ Q (.bl (isBetween v lo hi)) H
theorem count_int {v : V} (h : isCount v = true) : ∃ i : Int, v = .int i ∧ 0 ≤ i := by
  cases v <;> first | (cases h; done) | exact ⟨_, rfl, of_decide_eq_true h⟩
theorem between_int {v : V} {lo hi : Int} (h : isBetween v lo hi = true) : ∃ i : Int, v = .int i ∧ 0 ≤ i ∧ lo ≤ i ∧ i ≤ hi := by
  obtain ⟨h1, h2⟩ := Bool.and_eq_true_iff.mp h
  obtain ⟨i, rfl, h0⟩ := count_int h1
  obtain ⟨h3, h4⟩ := Bool.and_eq_true_iff.mp h2
  exact ⟨i, rfl, h0, of_decide_eq_true h3, of_decide_eq_true h4⟩
section
variable {P : Program} {w : World} {K : PySem.W.Frag} {mg : Str → Option Value} {base : Heap}
theorem scIndex : FnScope ["value", "many"] ["value", "many"] (defScope sIndex) := ⟨rfl, rfl, rfl, by decide +kernel, rfl, by decide +kernel, by decide +kernel⟩
theorem ok_index {f fC : Addr} {fd fdC : FuncData} (F : Fun K "is_index" "is_index" sIndex f fd) (FC : Fun K "is_count" "is_count" sCount fC fdC) (T : MTxt K mg) (bC : Binds K fdC ["value"] []) (gC : mg "is_count" = some (.ref fC)) :
    FnOk P w K mg base CX0 2 f fd ["value", "many"] spIndex := by
  have GC : FnOk P w K mg base CX0 1 fC fdC ["value"] spCount := ok_count FC T
  refine F.ok scIndex (fun vs H Q E h => ?_) (fun cdv A outer s H vs Q E hr h => ?_)
  · obtain ⟨v, n, m, rfl, _⟩ := h
    rfl
  · obtain ⟨v, n, m, rfl, hk, k⟩ := h
    refine ⟨_, pss_one (ps_ret (pe_and (pe_call GC hr rfl gC FC.kp bC .nil pass0 (pa_cons (pv 0) pa_nil)) (pe_one (pe_cmpR op_lt (pv 0) (pv 1) (nomark _))))), ?_⟩
    refine ⟨_, rfl, v, n, rfl, hk, _, rfl, ?_⟩
    cases e : isCount v with
    | false =>
      refine iteF ?_
      have k' := k
      rw [isIndex, e] at k'
      exact k'
    | true =>
      obtain ⟨i, rfl, _⟩ := count_int e
      have k' := k
      rw [isIndex, e] at k'
      exact iteT ⟨_, rfl, _, rfl, _, _, rfl, rfl, k'⟩
theorem scBetween : FnScope ["value", "least", "most"] ["value", "least", "most"] (defScope sBetween) := ⟨rfl, rfl, rfl, by decide +kernel, rfl, by decide +kernel, by decide +kernel⟩
theorem ok_between {f fC : Addr} {fd fdC : FuncData} (F : Fun K "is_between" "is_between" sBetween f fd) (FC : Fun K "is_count" "is_count" sCount fC fdC) (T : MTxt K mg) (bC : Binds K fdC ["value"] []) (gC : mg "is_count" = some (.ref fC)) :
    FnOk P w K mg base CX0 2 f fd ["value", "least", "most"] spBetween := by
  have GC : FnOk P w K mg base CX0 1 fC fdC ["value"] spCount := ok_count FC T
  refine F.ok scBetween (fun vs H Q E h => ?_) (fun cdv A outer s H vs Q E hr h => ?_)
  · obtain ⟨v, n, lo, hi, rfl, _⟩ := h
    rfl
  · obtain ⟨v, n, lo, hi, rfl, hk, k⟩ := h
    refine ⟨_, pss_one (ps_ret (pe_and (pe_call GC hr rfl gC FC.kp bC .nil pass0 (pa_cons (pv 0) pa_nil)) (pe_one (pe_chain op_le op_le (pv 1) (pv 0) (pv 2))))), ?_⟩
    refine ⟨_, rfl, v, n, rfl, hk, _, rfl, ?_⟩
    cases e : isCount v with
    | false =>
      refine iteF ?_
      have k' := k
      rw [isBetween, e] at k'
      exact k'
    | true =>
      obtain ⟨i, rfl, _⟩ := count_int e
      have k' := k
      rw [isBetween, e] at k'
      refine iteT ⟨_, rfl, _, rfl, _, _, rfl, rfl, _, rfl, ?_⟩
      cases e2 : decide (lo ≤ i) with
      | false =>
        refine iteF ?_
        have k2 : Q (.bl (decide (lo ≤ i) && decide (i ≤ hi))) H := k'
        rw [e2] at k2
        exact k2
      | true =>
        have k2 : Q (.bl (decide (lo ≤ i) && decide (i ≤ hi))) H := k'
        rw [e2] at k2
        exact iteT ⟨_, rfl, _, _, rfl, rfl, k2⟩
end
/-! ### tables -/
abbrev sTbInit : Stmt := inClass (top 26) 0
def booksL : List V := [.str "least", .str "any", .str "next", .str "last"]
def isBook : V → Bool
  | .str z => inV (.str z) booksL
  | _ => false
structure TbCls (K : PySem.W.Frag) (mg : Str → Option Value) (C : Addr) : Prop where
  cl : Cls K C
  n1 : NoAttr K C "_size"
  n2 : NoAttr K C "_book"
  n3 : NoAttr K C "_turns"
  n4 : NoAttr K C "_entries"
  n5 : NoAttr K C "_counts"
  n6 : NoAttr K C "_many_entries"
  n7 : NoAttr K C "_start"
  n8 : NoAttr K C "_freed"
  g : mg "Table" = some (.ref C)
/-- the constants and built-in names of the module -/
structure TbTxt (K : PySem.W.Frag) (mg : Str → Option Value) (aB : Addr) : Prop where
  books : mg "BOOKS" = some (.ref aB)
  booksT : ∀ H, SqT K H aB booksL
  str : mg "str" = none
  numbers : ∃ t, mg "MOST_NUMBERS" = some (.int 60 t)
  turns : ∃ t, mg "MOST_TURNS" = some (.int 4 t)
/-- the fields of a table -/
def tbF (v1 v2 v3 : V) (pe pc : Addr) (many start : Int) (pf : Addr) : List (Str × V) :=
  [("_size", v1), ("_book", v2), ("_turns", v3), ("_entries", .ref pe), ("_counts", .ref pc), ("_many_entries", .int many), ("_start", .int start), ("_freed", .ref pf)]
/-- a table is made, or the error of the first that is wrong -/
def spTable (C CN CB : Addr) : Sp := fun vs H Q E => ∃ (x dx : Addr) (v1 v2 v3 : V) (k1 k2 k3 : String), vs = [.ref x, v1, v2, v3] ∧ H x = some (.ins C dx []) ∧ Kd H v1 k1 ∧ Kd H v2 k2 ∧ Kd H v3 k3 ∧
  (isBetween v1 1 60 = false → Bad E H CN v1) ∧ (isBetween v1 1 60 = true → isBook v2 = false → Bad E H CB v2) ∧ (isBetween v1 1 60 = true → isBook v2 = true → isBetween v3 1 4 = false → Bad E H CN v3) ∧
  (isBetween v1 1 60 = true → isBook v2 = true → isBetween v3 1 4 = true → ∀ (H' : Hp) (n : Int) (pe pc pf : Addr), v1 = .int n → SameX x H H' → H' x = some (.ins C dx (tbF v1 v2 v3 pe pc 0 0 pf)) → H' pe = some (.lst (List.replicate n.toNat .non)) →
    H' pc = some (.lst (List.replicate n.toNat (.int 0))) → H' pf = some (.lst []) → H pe = none → H pc = none → H pf = none → Q .non H')
theorem rep_one (v : V) (k : Nat) : (List.replicate k [v]).flatten = List.replicate k v := by
  induction k with
  | zero => rfl
  | succ k ih => rw [List.replicate_succ, List.flatten_cons, ih, List.replicate_succ]; rfl
theorem SameX.put {x : Addr} {H H' : Hp} (s : SameX x H H') (o : HO) : SameX x H (upd H' x o) := fun b u nb e => by
  rw [upd_ne nb]
  exact s b u nb e
theorem SameX.new {x a : Addr} {H H' : Hp} {o : HO} (s : SameX x H H') (h : H' a = none) : SameX x H (upd H' a o) := fun b u nb e => by
  rw [upd_ne (ne_of_none (s b u nb e) h)]
  exact s b u nb e
theorem SameX.none {x a : Addr} {H H' : Hp} {o : HO} (s : SameX x H H') (hx : H' x = some o) (h : H' a = none) : H a = none := by
  cases e : H a with
  | none => rfl
  | some u =>
    have n : a ≠ x := fun z => by rw [z, hx] at h; cases h
    rw [s a u n e] at h
    cases h
section
variable {P : Program} {w : World} {K : PySem.W.Frag} {mg : Str → Option Value} {base : Heap}
theorem scTb : FnScope ["self", "size", "book", "turns"] ["self", "size", "book", "turns"] (defScope sTbInit) := ⟨rfl, rfl, rfl, by decide +kernel, rfl, by decide +kernel, by decide +kernel⟩
theorem ok_table {f C CN CB aB fI fB : Addr} {fd fdI fdB : FuncData} (F : FunD K "__init__" "Table.__init__" (defArgs sTbInit) (defBody sTbInit) (defScope sTbInit) [] [("book", .str "least"), ("turns", .int 1)] f fd) (T : MTxt K mg) (S : TbCls K mg C) (U : TbTxt K mg aB)
    (eN : ErrC K mg "InvalidNumber" CN fI) (eK : ErrC K mg "InvalidBook" CB fI) (FI : Fun K "__init__" "HandleError.__init__" sHInit fI fdI) (bI : Binds K fdI ["self", "value"] [])
    (FB : Fun K "is_between" "is_between" sBetween fB fdB) (bB : Binds K fdB ["value", "least", "most"] []) (gB : mg "is_between" = some (.ref fB)) (GB : FnOk P w K mg base CX0 2 fB fdB ["value", "least", "most"] spBetween) :
    FnOk P w K mg base (L2.CX P w) 3 f fd ["self", "size", "book", "turns"] (spTable C CN CB) := by
  have GI : FnOk P w K mg base CX0 1 fI fdI ["self", "value"] (spInitE K "value") := ok_hinit FI
  refine F.ok scTb (fun vs H Q E h => ?_) (fun cdv A outer s H vs Q E hr h => ?_)
  · obtain ⟨x, dx, v1, v2, v3, k1, k2, k3, rfl, _⟩ := h
    rfl
  · obtain ⟨x, dx, v1, v2, v3, k1, k2, k3, rfl, hx, h1, h2, h3, b1, b2, b3, k⟩ := h
    obtain ⟨t60, m60⟩ := U.numbers
    obtain ⟨t4, m4⟩ := U.turns
    refine ⟨_, (pss_cons (ps_if (pt_not (pt_val (pe_call GB hr rfl gB FB.kp bB .nil pass0 (pa_cons (pv 1) (pa_cons pe_int (pa_cons (pe_glob (v := .int 60) rfl m60 ⟨_, rfl⟩) pa_nil))))))
        (pss_one (ps_raise rfl (takes_of rfl rfl rfl rfl) (pmk_oex eN.ox eN.i eN.t GI (hr.mono (by decide)) bI .nil pass0 rfl eN.g (pa_cons (pv 1) pa_nil)))) pss_nil)
      (pss_cons (ps_if (PW.pt (pw_or (pt_not (pt_val (pe_callB call_isi (by rfl) T.isi (by decide +kernel) (pa_cons (pv 2) (pa_cons (pe_bltn (v := .ty "str") (by rfl) U.str (by decide +kernel) rfl) pa_nil))))) (pw_or1 (pt_cmpR op_notIn_seq (pv 2) (pe_glob (v := .ref aB) rfl U.books rfl) (by rfl)))))
        (pss_one (ps_raise rfl (takes_of rfl rfl rfl rfl) (pmk_oex eK.ox eK.i eK.t GI (hr.mono (by decide)) bI .nil pass0 rfl eK.g (pa_cons (pv 2) pa_nil)))) pss_nil)
      (pss_cons (ps_if (pt_not (pt_val (pe_call GB hr rfl gB FB.kp bB .nil pass0 (pa_cons (pv 3) (pa_cons pe_int (pa_cons (pe_glob (v := .int 4) rfl m4 ⟨_, rfl⟩) pa_nil))))))
        (pss_one (ps_raise rfl (takes_of rfl rfl rfl rfl) (pmk_oex eN.ox eN.i eN.t GI (hr.mono (by decide)) bI .nil pass0 rfl eN.g (pa_cons (pv 3) pa_nil)))) pss_nil)
      (pss_cons (ps_fld (pv 0) (pv 1) (by rfl)) (pss_cons (ps_fld (pv 0) (pv 2) (by rfl)) (pss_cons (ps_fld (pv 0) (pv 3) (by rfl))
      (pss_cons (ps_fld (pv 0) (pe_op op_rep (pe_lst (pa_cons pe_non pa_nil)) (pv 1)) (by rfl)) (pss_cons (ps_fld (pv 0) (pe_op op_rep (pe_lst (pa_cons pe_int pa_nil)) (pv 1)) (by rfl))
      (pss_cons (ps_fld (pv 0) pe_int (by rfl)) (pss_cons (ps_fld (pv 0) pe_int (by rfl)) (pss_one (ps_fld (pv 0) (pe_lst pa_nil) (by rfl))))))))))))), ?_⟩
    refine ⟨v1, rfl, v1, _, _, _, rfl, h1, _, rfl, ?_⟩
    cases e1 : isBetween v1 1 60 with
    | false => exact iteT ⟨v1, rfl, (show 1 ≤ 1000 by decide), raise_ok eN (b1 e1)⟩
    | true =>
    refine iteF ?_
    obtain ⟨n, rfl, n0, n1, n60⟩ := between_int e1
    have two : isBook v2 = false → Bad E H CB v2 := b2 e1
    -- a later bound
    have rest : isBook v2 = true → ∃ z, v2 = .str z := fun q => by
      cases v2 <;> first | exact ⟨_, rfl⟩ | cases q
    have noBook : isBook v2 = false → Bad E H CB v2 := two
    cases hB : isBook v2 with
    | false =>
      have ty := h2.ty (K := K)
      have ra : ∀ a, H a = none → _ := raise_ok eK (noBook hB)
      cases h2 with
      | str z hz => 
        have hB' : inV (.str z) booksL = false := hB
        refine ⟨_, rfl, _, _, _, _, true, rfl, .ty _, ty, kit_ty (by decide +kernel), _, rfl, iteF ⟨_, rfl, aB, booksL, rfl, .inr (U.booksT H), rfl, rfl, _, rfl, ?_⟩⟩
        rw [hB']
        refine iteT ?_
        exact ⟨_, rfl, (show 1 ≤ 1000 by decide), ra⟩
      | _ => exact ⟨_, rfl, _, _, _, _, false, rfl, .ty _, ty, kit_ty (by decide +kernel), _, rfl, iteT (iteT ⟨_, rfl, (show 1 ≤ 1000 by decide), ra⟩)⟩
    | true =>
    obtain ⟨z, rfl⟩ := rest hB
    have hB' : inV (.str z) booksL = true := hB
    obtain rfl : k2 = "str" := by cases h2; rfl
    have ty := h2.ty (K := K)
    refine ⟨_, rfl, _, _, _, _, true, rfl, .ty _, ty, kit_ty (by decide +kernel), _, rfl, iteF ⟨_, rfl, aB, booksL, rfl, .inr (U.booksT H), rfl, rfl, _, rfl, ?_⟩⟩
    rw [hB']
    refine iteF ?_
    refine ⟨v3, rfl, v3, _, _, _, rfl, h3, _, rfl, ?_⟩
    cases e3 : isBetween v3 1 4 with
    | false => exact iteT ⟨v3, rfl, (show 1 ≤ 1000 by decide), raise_ok eN (b3 e1 hB e3)⟩
    | true =>
    refine iteF ?_
    obtain ⟨m, rfl, m0, m1, m4⟩ := between_int e3
    refine ⟨.int n, rfl, _, rfl, x, C, dx, [], rfl, hx, S.cl, S.n1, (by decide), .str z, rfl, _, rfl, x, C, dx, _, rfl, upd_same, S.cl, S.n2, (show 1 < 1000 by decide), .int m, rfl, _, rfl, x, C, dx, _, rfl, upd_same, S.cl, S.n3, (show 2 < 1000 by decide), ?_⟩
    have s3 : SameX x H (upd (upd (upd H x (.ins C dx (putF "_size" (.int n) []))) x (.ins C dx (putF "_book" (.str z) (putF "_size" (.int n) [])))) x (.ins C dx (putF "_turns" (.int m) (putF "_book" (.str z) (putF "_size" (.int n) []))))) := ((SameX.put (SameX.put (fun _ _ _ e => e) _) _).put _)
    have x3 : (upd (upd (upd H x (.ins C dx (putF "_size" (.int n) []))) x (.ins C dx (putF "_book" (.str z) (putF "_size" (.int n) [])))) x (.ins C dx (putF "_turns" (.int m) (putF "_book" (.str z) (putF "_size" (.int n) []))))) x = some (.ins C dx [("_size", .int n), ("_book", .str z), ("_turns", .int m)]) := upd_same
    generalize upd (upd (upd H x (.ins C dx (putF "_size" (.int n) []))) x (.ins C dx (putF "_book" (.str z) (putF "_size" (.int n) [])))) x (.ins C dx (putF "_turns" (.int m) (putF "_book" (.str z) (putF "_size" (.int n) [])))) = G3 at s3 x3 ⊢
    have rl : ∀ v : V, [v].length * n.toNat ≤ sizeLine := fun v => Nat.le_trans (show 1 * n.toNat ≤ 60 by omega) (by decide)
    have lo63 : -(2 ^ 63) ≤ n := by omega
    have hi63 : n < 2 ^ 63 := by omega
    refine ⟨(by show 1 ≤ sizeLine; decide), fun l hl => ⟨_, rfl, l, n, [.non], rfl, rfl, upd_same, lo63, hi63, rl _, fun p hp => ?_⟩⟩
    rw [rep_one]
    have s4 := s3.new (o := .lst [.non]) hl
    have x4 : (upd G3 l (.lst [.non])) x = _ := (upd_ne (ne_of_none x3 hl)).trans x3
    have hp0 := s4.none x4 hp
    have s5 := s4.new (o := .lst (List.replicate n.toNat .non)) hp
    have x5 : (upd (upd G3 l (.lst [.non])) p (.lst (List.replicate n.toNat .non))) x = _ := (upd_ne (ne_of_none x4 hp)).trans x4
    have p5 : (upd (upd G3 l (.lst [.non])) p (.lst (List.replicate n.toNat .non))) p = _ := upd_same
    have px : p ≠ x := fun q => by rw [q, x4] at hp; cases hp
    generalize upd (upd G3 l (.lst [.non])) p (.lst (List.replicate n.toNat .non)) = G5 at s5 x5 p5 ⊢
    clear s4 x4 hp hl l
    refine ⟨_, rfl, x, C, dx, _, rfl, x5, S.cl, S.n4, (show 3 < 1000 by decide), ?_⟩
    have s6 := s5.put (.ins C dx (putF "_entries" (.ref p) [("_size", .int n), ("_book", .str z), ("_turns", .int m)]))
    have x6 : (upd G5 x (.ins C dx (putF "_entries" (.ref p) [("_size", .int n), ("_book", .str z), ("_turns", .int m)]))) x = some (.ins C dx [("_size", .int n), ("_book", .str z), ("_turns", .int m), ("_entries", .ref p)]) := upd_same
    have p6 : (upd G5 x (.ins C dx (putF "_entries" (.ref p) [("_size", .int n), ("_book", .str z), ("_turns", .int m)]))) p = _ := (upd_ne px).trans p5
    generalize upd G5 x (.ins C dx (putF "_entries" (.ref p) [("_size", .int n), ("_book", .str z), ("_turns", .int m)])) = G6 at s6 x6 p6 ⊢
    clear s5 x5 p5
    refine ⟨(by show 1 ≤ sizeLine; decide), fun l hl => ⟨_, rfl, l, n, [.int 0], rfl, rfl, upd_same, lo63, hi63, rl _, fun c hc => ?_⟩⟩
    rw [rep_one]
    have s7 := s6.new (o := .lst [.int 0]) hl
    have x7 : (upd G6 l (.lst [.int 0])) x = _ := (upd_ne (ne_of_none x6 hl)).trans x6
    have p7 : (upd G6 l (.lst [.int 0])) p = _ := (upd_ne (ne_of_none p6 hl)).trans p6
    have hc0 := s7.none x7 hc
    have s8 := s7.new (o := .lst (List.replicate n.toNat (.int 0))) hc
    have x8 : (upd (upd G6 l (.lst [.int 0])) c (.lst (List.replicate n.toNat (.int 0)))) x = _ := (upd_ne (ne_of_none x7 hc)).trans x7
    have p8 : (upd (upd G6 l (.lst [.int 0])) c (.lst (List.replicate n.toNat (.int 0)))) p = _ := (upd_ne (ne_of_none p7 hc)).trans p7
    have c8 : (upd (upd G6 l (.lst [.int 0])) c (.lst (List.replicate n.toNat (.int 0)))) c = _ := upd_same
    have cx : c ≠ x := fun q => by rw [q, x7] at hc; cases hc
    have pcn : p ≠ c := ne_of_none p7 hc
    generalize upd (upd G6 l (.lst [.int 0])) c (.lst (List.replicate n.toNat (.int 0))) = G8 at s8 x8 p8 c8 ⊢
    clear s7 x7 p7 hc hl l s6 x6 p6
    refine ⟨_, rfl, x, C, dx, _, rfl, x8, S.cl, S.n5, (show 4 < 1000 by decide), _, rfl, x, C, dx, _, rfl, upd_same, S.cl, S.n6, (show 5 < 1000 by decide), _, rfl, x, C, dx, _, rfl, upd_same, S.cl, S.n7, (show 6 < 1000 by decide), ?_⟩
    have s9 : SameX x H (upd (upd (upd G8 x (.ins C dx (putF "_counts" (.ref c) [("_size", .int n), ("_book", .str z), ("_turns", .int m), ("_entries", .ref p)]))) x (.ins C dx (putF "_many_entries" (.int 0) (putF "_counts" (.ref c) [("_size", .int n), ("_book", .str z), ("_turns", .int m), ("_entries", .ref p)])))) x (.ins C dx (putF "_start" (.int 0) (putF "_many_entries" (.int 0) (putF "_counts" (.ref c) [("_size", .int n), ("_book", .str z), ("_turns", .int m), ("_entries", .ref p)]))))) := (((s8.put _).put _).put _)
    have x9 : (upd (upd (upd G8 x (.ins C dx (putF "_counts" (.ref c) [("_size", .int n), ("_book", .str z), ("_turns", .int m), ("_entries", .ref p)]))) x (.ins C dx (putF "_many_entries" (.int 0) (putF "_counts" (.ref c) [("_size", .int n), ("_book", .str z), ("_turns", .int m), ("_entries", .ref p)])))) x (.ins C dx (putF "_start" (.int 0) (putF "_many_entries" (.int 0) (putF "_counts" (.ref c) [("_size", .int n), ("_book", .str z), ("_turns", .int m), ("_entries", .ref p)]))))) x = some (.ins C dx [("_size", .int n), ("_book", .str z), ("_turns", .int m), ("_entries", .ref p), ("_counts", .ref c), ("_many_entries", .int 0), ("_start", .int 0)]) := upd_same
    have p9 : (upd (upd (upd G8 x (.ins C dx (putF "_counts" (.ref c) [("_size", .int n), ("_book", .str z), ("_turns", .int m), ("_entries", .ref p)]))) x (.ins C dx (putF "_many_entries" (.int 0) (putF "_counts" (.ref c) [("_size", .int n), ("_book", .str z), ("_turns", .int m), ("_entries", .ref p)])))) x (.ins C dx (putF "_start" (.int 0) (putF "_many_entries" (.int 0) (putF "_counts" (.ref c) [("_size", .int n), ("_book", .str z), ("_turns", .int m), ("_entries", .ref p)]))))) p = _ := (upd_ne px).trans ((upd_ne px).trans ((upd_ne px).trans p8))
    have c9 : (upd (upd (upd G8 x (.ins C dx (putF "_counts" (.ref c) [("_size", .int n), ("_book", .str z), ("_turns", .int m), ("_entries", .ref p)]))) x (.ins C dx (putF "_many_entries" (.int 0) (putF "_counts" (.ref c) [("_size", .int n), ("_book", .str z), ("_turns", .int m), ("_entries", .ref p)])))) x (.ins C dx (putF "_start" (.int 0) (putF "_many_entries" (.int 0) (putF "_counts" (.ref c) [("_size", .int n), ("_book", .str z), ("_turns", .int m), ("_entries", .ref p)]))))) c = _ := (upd_ne cx).trans ((upd_ne cx).trans ((upd_ne cx).trans c8))
    generalize upd (upd (upd G8 x (.ins C dx (putF "_counts" (.ref c) [("_size", .int n), ("_book", .str z), ("_turns", .int m), ("_entries", .ref p)]))) x (.ins C dx (putF "_many_entries" (.int 0) (putF "_counts" (.ref c) [("_size", .int n), ("_book", .str z), ("_turns", .int m), ("_entries", .ref p)])))) x (.ins C dx (putF "_start" (.int 0) (putF "_many_entries" (.int 0) (putF "_counts" (.ref c) [("_size", .int n), ("_book", .str z), ("_turns", .int m), ("_entries", .ref p)])))) = G9 at s9 x9 p9 c9 ⊢
    refine ⟨(by show 0 ≤ sizeLine; decide), fun q hq => ?_⟩
    have hq0 := s9.none x9 hq
    have qx : q ≠ x := fun e => by rw [e, x9] at hq; cases hq
    refine ⟨_, rfl, x, C, dx, _, rfl, (upd_ne qx.symm).trans x9, S.cl, S.n8, (show 7 < 1000 by decide), ?_⟩
    refine k e1 hB e3 _ n p c q rfl ((s9.new hq).put _) upd_same ?_ ?_ ?_ hp0 hc0 hq0
    · exact (upd_ne px).trans ((upd_ne (ne_of_none p9 hq)).trans p9)
    · exact (upd_ne cx).trans ((upd_ne (ne_of_none c9 hq)).trans c9)
    · exact (upd_ne qx).trans upd_same
end
/-! ### a table's state; what tells of it -/
abbrev sTbSize : Stmt := inClass (top 26) 1
abbrev sTbBook : Stmt := inClass (top 26) 2
abbrev sTbTurns : Stmt := inClass (top 26) 3
abbrev sTbFree : Stmt := inClass (top 26) 4
abbrev sTbTold : Stmt := inClass (top 26) 5
abbrev sTbItem : Stmt := inClass (top 26) 13
abbrev sTbLen : Stmt := inClass (top 26) 15
structure TAt (H : Hp) (C x dx pe pc pf : Addr) (n : Nat) (bk : Str) (tn : Int) (es : List V) (cs : List Int) (many start : Int) (fr : List Int) : Prop where
  ins : H x = some (.ins C dx (tbF (.int (n : Nat)) (.str bk) (.int tn) pe pc many start pf))
  ens : H pe = some (.lst es)
  cnt : H pc = some (.lst (cs.map V.int))
  fre : H pf = some (.lst (fr.map V.int))
  len : es.length = n
  lec : cs.length = n
  lim : n ≤ 60
section
variable {H H' : Hp} {C x dx pe pc pf : Addr} {n : Nat} {bk : Str} {tn : Int} {es : List V} {cs : List Int} {many start : Int} {fr : List Int}
theorem TAt.same (h : TAt H C x dx pe pc pf n bk tn es cs many start fr) (s : Same H H') : TAt H' C x dx pe pc pf n bk tn es cs many start fr := ⟨s _ _ h.ins, s _ _ h.ens, s _ _ h.cnt, s _ _ h.fre, h.len, h.lec, h.lim⟩
theorem _root_.L2.Same.put {D : Addr} {o : HO} (s : Same H H') (h : H D = none) : Same H (upd H' D o) := fun b u e => by
  rw [upd_ne (ne_of_none e h)]
  exact s b u e
end
def isSomeE (v : V) : Bool := !decide (v = V.non)
def countE (es : List V) : Nat := (es.filter isSomeE).length
def freesN (es : List V) (k : Nat) : List Nat := (List.range k).filter fun i => decide (es[i]? = some V.non)
/-- the numbers that are free -/
def frees (es : List V) : List Int := (freesN es es.length).map fun (i : Nat) => (i : Int)
/-- the one of the free numbers that the book tells -/
def toldN (bk : Str) (start : Int) (fr ns : List Int) : Int :=
  if bk = "next" then ((ns.filter fun m => decide (start ≤ m)) ++ ns).headD 0 else if bk = "last" then (fr.getLast?).getD (ns.headD 0) else ns.headD 0
def freeL (bk : Str) (start : Int) (fr : List Int) (es : List V) : List Int := if bk = "any" then frees es else if frees es = [] then [] else [toldN bk start fr (frees es)]
def spTLen (C : Addr) : Sp := fun vs H Q _ => ∃ (x dx pe pc pf : Addr) (n : Nat) (bk : Str) (tn : Int) (es : List V) (cs : List Int) (many start : Int) (fr : List Int), vs = [.ref x] ∧ TAt H C x dx pe pc pf n bk tn es cs many start fr ∧ ∀ H', Same H H' → Q (.int (countE es : Nat)) H'
def spTItem (C CN : Addr) : Sp := fun vs H Q E => ∃ (x dx pe pc pf : Addr) (n : Nat) (bk : Str) (tn : Int) (es : List V) (cs : List Int) (many start : Int) (fr : List Int) (v : V) (kn : String), vs = [.ref x, v] ∧ TAt H C x dx pe pc pf n bk tn es cs many start fr ∧ Kd H v kn ∧
  (isIndex v n = false → Bad E H CN v) ∧ ∀ (i : Nat) (u : V), v = .int (i : Nat) → es[i]? = some u → Q u H
def spTold (C : Addr) : Sp := fun vs H Q _ => ∃ (x dx pe pc pf pn : Addr) (n : Nat) (bk : Str) (tn : Int) (es : List V) (cs : List Int) (many start : Int) (fr ns : List Int), vs = [.ref x, .ref pn] ∧ TAt H C x dx pe pc pf n bk tn es cs many start fr ∧ H pn = some (.lst (ns.map V.int)) ∧ ns ≠ [] ∧ ns.length ≤ 60 ∧
  ∀ H', Same H H' → Q (.int (toldN bk start fr ns)) H'
def spTFree (C : Addr) : Sp := fun vs H Q _ => ∃ (x dx pe pc pf : Addr) (n : Nat) (bk : Str) (tn : Int) (es : List V) (cs : List Int) (many start : Int) (fr : List Int), vs = [.ref x] ∧ TAt H C x dx pe pc pf n bk tn es cs many start fr ∧
  ∀ H' t, Same H H' → H' t = some (.tup ((freeL bk start fr es).map V.int)) → Q (.ref t) H'
structure TbTxt2 (mg : Str → Option Value) : Prop where
  len : mg "len" = none
  tuple : mg "tuple" = none
  enumerate : mg "enumerate" = none
section
variable {P : Program} {w : World} {K : PySem.W.Frag} {mg : Str → Option Value} {base : Heap}
theorem scTbSize : FnScope ["self"] ["self"] (defScope sTbSize) := ⟨rfl, rfl, rfl, by decide +kernel, rfl, by decide +kernel, by decide +kernel⟩
theorem ok_tbSize {f : Addr} {fd : FuncData} (F : Fun K "size" "Table.size" sTbSize f fd) : FnOk P w K mg base CX0 1 f fd ["self"] (spGet K "_size") := by
  refine F.ok scTbSize (fun vs H Q E h => ?_) (fun cdv A outer s H vs Q E hr h => ?_)
  · obtain ⟨x, _, _, _, _, rfl, _⟩ := h
    rfl
  · obtain ⟨x, C, dx, fs, v, rfl, hx, cl, no, l, k⟩ := h
    exact ⟨_, pss_one (ps_ret (pe_fld (pv 0) (by rfl))), ⟨_, rfl, x, C, dx, fs, v, rfl, hx, cl, no, l, k⟩⟩
theorem scTbBook : FnScope ["self"] ["self"] (defScope sTbBook) := ⟨rfl, rfl, rfl, by decide +kernel, rfl, by decide +kernel, by decide +kernel⟩
theorem ok_tbBook {f : Addr} {fd : FuncData} (F : Fun K "book" "Table.book" sTbBook f fd) : FnOk P w K mg base CX0 1 f fd ["self"] (spGet K "_book") := by
  refine F.ok scTbBook (fun vs H Q E h => ?_) (fun cdv A outer s H vs Q E hr h => ?_)
  · obtain ⟨x, _, _, _, _, rfl, _⟩ := h
    rfl
  · obtain ⟨x, C, dx, fs, v, rfl, hx, cl, no, l, k⟩ := h
    exact ⟨_, pss_one (ps_ret (pe_fld (pv 0) (by rfl))), ⟨_, rfl, x, C, dx, fs, v, rfl, hx, cl, no, l, k⟩⟩
theorem scTbTurns : FnScope ["self"] ["self"] (defScope sTbTurns) := ⟨rfl, rfl, rfl, by decide +kernel, rfl, by decide +kernel, by decide +kernel⟩
theorem ok_tbTurns {f : Addr} {fd : FuncData} (F : Fun K "turns" "Table.turns" sTbTurns f fd) : FnOk P w K mg base CX0 1 f fd ["self"] (spGet K "_turns") := by
  refine F.ok scTbTurns (fun vs H Q E h => ?_) (fun cdv A outer s H vs Q E hr h => ?_)
  · obtain ⟨x, _, _, _, _, rfl, _⟩ := h
    rfl
  · obtain ⟨x, C, dx, fs, v, rfl, hx, cl, no, l, k⟩ := h
    exact ⟨_, pss_one (ps_ret (pe_fld (pv 0) (by rfl))), ⟨_, rfl, x, C, dx, fs, v, rfl, hx, cl, no, l, k⟩⟩
theorem scTbLen : FnScope ["self", "entry"] ["self"] (defScope sTbLen) := ⟨rfl, rfl, rfl, by decide +kernel, rfl, by decide +kernel, by decide +kernel⟩
theorem ok_tbLen {f C : Addr} {fd : FuncData} (F : Fun K "__len__" "Table.__len__" sTbLen f fd) (S : TbCls K mg C) (U : TbTxt2 mg) : FnOk P w K mg base CX0 1 f fd ["self"] (spTLen C) := by
  refine F.ok scTbLen (fun vs H Q E h => ?_) (fun cdv A outer s H vs Q E hr h => ?_)
  · obtain ⟨x, _, _, _, _, _, _, _, _, _, _, _, _, rfl, _⟩ := h
    rfl
  · obtain ⟨x, dx, pe, pc, pf, n, bk, tn, es, cs, many, start, fr, rfl, t, k⟩ := h
    refine ⟨_, pss_one (ps_ret (pe_callB call_len_seq (by rfl) U.len (by decide +kernel) (pa_cons (pe_lc (own := [("entry", 1)]) (g := gName 1) (by rfl) scTbLen.nd (pi_list (pe_fld (pv 0) (by rfl))) (blkOk_by (own := [("entry", 1)]) (N := ["self", "entry"]) (sc := defScope sTbLen) (by decide +kernel))
      (fun _ _ _ _ _ => pg_name (i := 1) scTbLen.nd rfl (Or.inl rfl)) (fun _ _ _ _ _ => pts_one (pt_cmp (pc_notN (pv 1)))) (fun _ _ _ _ _ => pv 1)) pa_nil))), ?_⟩
    refine ⟨_, rfl, x, C, dx, _, .ref pe, rfl, t.ins, S.cl, S.n4, rfl, pe, rfl, ⟨_, .inl (.inl t.ens)⟩, fun D hD => lc_list (xs := es) (fun i H' => Same H H' ∧ H' D = some (.lst ((es.take i).filter isSomeE))) ⟨Same.new hD, upd_same⟩ (fun i H' _ e => .inl (.inl (e.1 _ _ t.ens))) ?_ ?_⟩
    · rintro i z H' hz ⟨s1, e1⟩
      have hi : i < es.length := (List.getElem?_eq_some_iff.mp hz).1
      have ht : es.take (i + 1) = es.take i ++ [z] := by rw [List.take_succ, hz]; rfl
      refine ⟨rfl, _, rfl, _, rfl, ?_⟩
      cases q : decide (z = V.non) with
      | true =>
        refine iteF ⟨s1, ?_⟩
        rw [ht, List.filter_append, e1]
        have : [z].filter isSomeE = [] := by simp [isSomeE, q]
        rw [this, List.append_nil]
      | false =>
        refine iteT ⟨_, rfl, _, e1, ?_, s1.put hD, ?_⟩
        · refine Nat.lt_of_le_of_lt (List.length_filter_le _ _) ?_
          rw [List.length_take]
          have l1 := t.len
          have l2 := t.lim
          exact Nat.lt_of_le_of_lt (Nat.le_trans (Nat.min_le_left ..) (show i ≤ 60 by omega)) (by decide)
        · rw [upd_same, ht, List.filter_append]
          have : [z].filter isSomeE = [z] := by simp [isSomeE, q]
          rw [this]
    · rintro H' ⟨s1, e1⟩
      rw [List.take_length] at e1
      exact ⟨D, _, rfl, .inl (.inl (.inl e1)), k H' s1⟩
theorem scTbItem : FnScope ["self", "at"] ["self", "at"] (defScope sTbItem) := ⟨rfl, rfl, rfl, by decide +kernel, rfl, by decide +kernel, by decide +kernel⟩
theorem ok_tbItem {f C CN fI fX : Addr} {fd fdI fdX : FuncData} (F : Fun K "__getitem__" "Table.__getitem__" sTbItem f fd) (S : TbCls K mg C)
    (eN : ErrC K mg "InvalidNumber" CN fI) (FI : Fun K "__init__" "HandleError.__init__" sHInit fI fdI) (bI : Binds K fdI ["self", "value"] [])
    (FX : Fun K "is_index" "is_index" sIndex fX fdX) (bX : Binds K fdX ["value", "many"] []) (gX : mg "is_index" = some (.ref fX)) (GX : FnOk P w K mg base CX0 2 fX fdX ["value", "many"] spIndex) :
    FnOk P w K mg base (L2.CX P w) 3 f fd ["self", "at"] (spTItem C CN) := by
  have GI : FnOk P w K mg base CX0 1 fI fdI ["self", "value"] (spInitE K "value") := ok_hinit FI
  refine F.okX scTbItem (fun vs H Q E h => ?_) (fun cdv A outer s H vs Q E hr h => ?_)
  · obtain ⟨x, _, _, _, _, _, _, _, _, _, _, _, _, _, _, rfl, _⟩ := h
    rfl
  · obtain ⟨x, dx, pe, pc, pf, n, bk, tn, es, cs, many, start, fr, v, kn, rfl, t, hk, b, k⟩ := h
    refine ⟨_, pss_cons (ps_if (pt_not (pt_val (pe_call GX hr rfl gX FX.kp bX .nil pass0 (pa_cons (pv 1) (pa_cons (pe_fld (pv 0) (by rfl)) pa_nil)))))
        (pss_one (ps_raise rfl (takes_of rfl rfl rfl rfl) (pmk_oex eN.ox eN.i eN.t GI (hr.mono (by decide)) bI .nil pass0 rfl eN.g (pa_cons (pv 1) pa_nil)))) pss_nil)
      (pss_one (ps_ret (pe_ix ix_list (pe_fld (pv 0) (by rfl)) (pv 1) (fun _ _ => rfl)))), ?_⟩
    refine ⟨v, rfl, _, rfl, x, C, dx, _, .int (n : Nat), rfl, t.ins, S.cl, S.n1, rfl, v, kn, n, rfl, hk, _, rfl, ?_⟩
    cases e : isIndex v n with
    | false => exact iteT ⟨v, rfl, (show 1 ≤ 1000 by decide), raise_ok eN (b e)⟩
    | true =>
      obtain ⟨e1, e2⟩ := Bool.and_eq_true_iff.mp e
      obtain ⟨i, rfl, i0⟩ := count_int e1
      obtain ⟨j, rfl⟩ := Int.eq_ofNat_of_zero_le i0
      have hj : (j : Int) < (n : Nat) := of_decide_eq_true e2
      have hl : j < es.length := by rw [t.len]; omega
      have hu : es[j]? = some es[j] := by simp [hl]
      exact iteF ⟨_, rfl, x, C, dx, _, .ref pe, rfl, t.ins, S.cl, S.n4, rfl, _, rfl, pe, es, _, _, rfl, rfl, .inl (.inl t.ens), atI_nat hu, k j _ rfl hu⟩
end
section
variable {P : Program} {w : World} {K : PySem.W.Frag} {mg : Str → Option Value} {base : Heap}
theorem _root_.L2.Same.push {H H' : Hp} {a : Addr} {o : HO} (s : Same H H') (h : H' a = none) : Same H (upd H' a o) := s.trans (Same.new h)
theorem dec_str {a b : Str} (h : a ≠ b) : decide (V.str a = V.str b) = false := decide_eq_false fun q => h (by injection q)
theorem dec_str' {a b : Str} (h : a = b) : decide (V.str a = V.str b) = true := decide_eq_true (by rw [h])
theorem scTbTold : FnScope ["self", "numbers", "behind", "number"] ["self", "numbers"] (defScope sTbTold) := ⟨rfl, rfl, rfl, by decide +kernel, rfl, by decide +kernel, by decide +kernel⟩
theorem ok_tbTold {f C : Addr} {fd : FuncData} (F : Fun K "_told" "Table._told" sTbTold f fd) (S : TbCls K mg C) : FnOk P w K mg base CX0 1 f fd ["self", "numbers"] (spTold C) := by
  refine F.ok scTbTold (fun vs H Q E h => ?_) (fun cdv A outer s H vs Q E hr h => ?_)
  · obtain ⟨x, _, _, _, _, _, _, _, _, _, _, _, _, _, _, rfl, _⟩ := h
    rfl
  · obtain ⟨x, dx, pe, pc, pf, pn, n, bk, tn, es, cs, many, start, fr, ns, rfl, t, hpn, hne, h60, k⟩ := h
    refine ⟨_, pss_cons (ps_if (pt_cmpR op_eq (pe_fld (pv 0) (by rfl)) pe_str (nomark _))
       (pss_cons (ps_setLc (i := 2) (own := [("number", 3)]) (g := gName 3) (tt := tTest (tOp (rI0 fun i j => .bl (decide (j ≤ i))) (tVar 3) (tFld K (tVar 0) "_start"))) (by rfl) scTbTold.nd rfl rfl (sw_true rfl rfl rfl (by decide +kernel)) (pi_list (pv 1)) (blkOk_by (own := [("number", 3)]) (N := ["self", "numbers", "behind", "number"]) (sc := defScope sTbTold) (by decide +kernel))
          (fun _ _ _ _ _ => pg_name (i := 3) scTbTold.nd rfl (Or.inl rfl)) (fun _ _ _ _ _ => pts_one (pt_cmpR op_ge (pv 3) (pe_fld (pv 0) (by rfl)) (by rfl))) (fun _ _ _ _ _ => pv 3))
        (pss_one (ps_ret (pe_ifExp (pt_truth (pv 2) (fun _ => rfl)) (pe_ix ix_list (pv 2) pe_int (fun _ _ => rfl)) (pe_ix ix_list (pv 1) pe_int (fun _ _ => rfl))))))
       pss_nil)
     (pss_cons (ps_if (PW.pt (pw_and (pt_cmpR op_eq (pe_fld (pv 0) (by rfl)) pe_str (nomark _)) (pw_and1 (pt_truth (pe_fld (pv 0) (by rfl)) (fun _ => rfl)))))
        (pss_one (ps_ret (pe_ix ix_list (pe_fld (pv 0) (by rfl)) (pe_un un_neg pe_int) (fun _ _ => rfl)))) pss_nil)
     (pss_one (ps_ret (pe_ix ix_list (pv 1) pe_int (fun _ _ => rfl))))), ?_⟩
    obtain ⟨m0, r0, rfl⟩ : ∃ m0 r0, ns = m0 :: r0 := by
      cases ns with
      | nil => exact absurd rfl hne
      | cons a b => exact ⟨a, b, rfl⟩
    have sn : SqL K H pn ((m0 :: r0).map V.int) := .inl (.inl hpn)
    refine ⟨_, rfl, x, C, dx, _, .str bk, rfl, t.ins, S.cl, S.n2, rfl, rfl, _, rfl, ?_⟩
    by_cases hN : bk = "next"
    · rw [dec_str' hN]
      refine iteT ?_
      refine ⟨_, rfl, pn, rfl, ⟨_, sn⟩, fun D hD => lc_list (xs := (m0 :: r0).map V.int) (fun i H' => Same H H' ∧ H' D = some (.lst ((((m0 :: r0).take i).filter fun m => decide (start ≤ m)).map V.int))) ⟨Same.new hD, upd_same⟩ (fun i H' _ e => e.1.seq sn) ?_ ?_⟩
      · rintro i z H' hz ⟨s1, e1⟩
        rw [List.getElem?_map] at hz
        obtain ⟨m, hm, rfl⟩ := Option.map_eq_some_iff.mp hz
        have hi : i < (m0 :: r0).length := (List.getElem?_eq_some_iff.mp hm).1
        have ht : (m0 :: r0).take (i + 1) = (m0 :: r0).take i ++ [m] := by rw [List.take_succ, hm]; rfl
        refine ⟨rfl, _, rfl, _, rfl, x, C, dx, _, .int start, rfl, s1 _ _ t.ins, S.cl, S.n7, rfl, _, _, rfl, rfl, _, rfl, ?_⟩
        cases q : decide (start ≤ m) with
        | false =>
          refine iteF ⟨s1, ?_⟩
          have : [m].filter (fun m => decide (start ≤ m)) = [] := by simp [q]
          rw [ht, List.filter_append, this, List.append_nil, e1]
        | true =>
          have : [m].filter (fun m => decide (start ≤ m)) = [m] := by simp [q]
          refine iteT ⟨_, rfl, _, e1, ?_, s1.put hD, ?_⟩
          · rw [List.length_map]
            refine Nat.lt_of_le_of_lt (List.length_filter_le _ _) ?_
            rw [List.length_take]
            exact Nat.lt_of_le_of_lt (Nat.le_trans (Nat.min_le_right ..) h60) (by decide)
          · rw [upd_same, ht, List.filter_append, this, List.map_append]
            rfl
      · rintro H' ⟨s1, e1⟩
        rw [List.length_map, List.take_length] at e1
        have k' := k H' s1
        rw [toldN, if_pos hN] at k'
        cases hf : (m0 :: r0).filter fun m => decide (start ≤ m) with
        | nil =>
          rw [hf] at e1 k'
          refine ⟨_, rfl, false, .inl ⟨_, .inl (.inl e1), rfl⟩, iteF ⟨_, rfl, pn, _, 0, _, rfl, rfl, s1.seq sn, atI_nat (j := 0) rfl, k'⟩⟩
        | cons a b =>
          rw [hf] at e1 k'
          refine ⟨_, rfl, true, .inl ⟨_, .inl (.inl e1), rfl⟩, iteT ⟨_, rfl, D, _, 0, _, rfl, rfl, .inl (.inl e1), atI_nat (j := 0) rfl, k'⟩⟩
    · rw [dec_str hN]
      refine iteF ?_
      have k' := k H (Same.refl H)
      rw [toldN, if_neg hN] at k'
      refine ⟨_, rfl, x, C, dx, _, .str bk, rfl, t.ins, S.cl, S.n2, rfl, rfl, _, rfl, ?_⟩
      by_cases hL : bk = "last"
      · rw [dec_str' hL]
        rw [if_pos hL] at k'
        refine iteT ?_
        rcases List.eq_nil_or_concat fr with rfl | ⟨fi, m, rfl⟩
        · exact ⟨_, rfl, x, C, dx, _, .ref pf, rfl, t.ins, S.cl, S.n8, rfl, false, .inl ⟨_, .inl (.inl t.fre), rfl⟩, iteF ⟨_, rfl, pn, _, 0, _, rfl, rfl, sn, atI_nat (j := 0) rfl, k'⟩⟩
        · have ef : H pf = some (.lst (fi.map V.int ++ [.int m])) := by
            have := t.fre
            rw [List.concat_eq_append, List.map_append] at this
            exact this
          rw [List.concat_eq_append, List.getLast?_concat] at k'
          refine ⟨_, rfl, x, C, dx, _, .ref pf, rfl, t.ins, S.cl, S.n8, rfl, true, .inl ⟨_, .inl (.inl ef), ?_⟩, iteT ⟨_, rfl, x, C, dx, _, .ref pf, rfl, t.ins, S.cl, S.n8, rfl, _, rfl, pf, _, _, _, rfl, rfl, .inl (.inl ef), atI_last _ _, k'⟩⟩
          cases fi <;> rfl
      · rw [dec_str hL]
        rw [if_neg hL] at k'
        exact iteF (iteF ⟨_, rfl, pn, _, 0, _, rfl, rfl, sn, atI_nat (j := 0) rfl, k'⟩)
theorem freesN_succ (es : List V) (k : Nat) : freesN es (k + 1) = freesN es k ++ (if es[k]? = some V.non then [k] else []) := by
  unfold freesN
  rw [List.range_succ, List.filter_append]
  congr 1
  by_cases h : es[k]? = some V.non
  · rw [if_pos h]; simp [h]
  · rw [if_neg h]; simp [h]
theorem freesN_le (es : List V) (k : Nat) : (freesN es k).length ≤ k := by
  refine Nat.le_trans (List.length_filter_le _ _) ?_
  rw [List.length_range]
  exact Nat.le_refl _
theorem scTbFree : FnScope ["self", "numbers", "number", "entry"] ["self"] (defScope sTbFree) := ⟨rfl, rfl, rfl, by decide +kernel, rfl, by decide +kernel, by decide +kernel⟩
theorem ok_tbFree {f C fT : Addr} {fd fdT : FuncData} (F : Fun K "free" "Table.free" sTbFree f fd) (S : TbCls K mg C) (U : TbTxt2 mg)
    (M : Meth K C "_told" fT) (FT : Fun K "_told" "Table._told" sTbTold fT fdT) (bT : Binds K fdT ["self", "numbers"] []) : FnOk P w K mg base CX0 2 f fd ["self"] (spTFree C) := by
  have GT : FnOk P w K mg base CX0 1 fT fdT ["self", "numbers"] (spTold C) := ok_tbTold FT S
  refine F.ok scTbFree (fun vs H Q E h => ?_) (fun cdv A outer s H vs Q E hr h => ?_)
  · obtain ⟨x, _, _, _, _, _, _, _, _, _, _, _, _, rfl, _⟩ := h
    rfl
  · obtain ⟨x, dx, pe, pc, pf, n, bk, tn, es, cs, many, start, fr, rfl, t, k⟩ := h
    refine ⟨_, pss_cons (ps_setLc (i := 1) (own := [("number", 2), ("entry", 3)]) (g := gTup K 2 (gCons (gName 2) (gCons (gName 3) gNil))) (by rfl) scTbFree.nd rfl rfl (sw_true rfl rfl rfl (by decide +kernel)) (pi_enum (by rfl) U.enumerate (pa_cons (pe_fld (pv 0) (by rfl)) pa_nil)) (blkOk_by (own := [("number", 2), ("entry", 3)]) (N := ["self", "numbers", "number", "entry"]) (sc := defScope sTbFree) (by decide +kernel))
          (fun _ _ _ _ _ => pg_tup (by rfl) (pgs_cons (pg_name (i := 2) scTbFree.nd rfl (.inl rfl)) (pgs_cons (pg_name (i := 3) scTbFree.nd rfl (.inl rfl)) pgs_nil))) (fun _ _ _ _ _ => pts_one (pt_cmp (pc_isN (pv 3)))) (fun _ _ _ _ _ => pv 2))
      (pss_cons (ps_if (PW.pt (pw_or (pt_cmpR op_eq (pe_fld (pv 0) (by rfl)) pe_str (nomark _)) (pw_or1 (pt_not (pt_truth (pv 1) (fun _ => rfl))))))
        (pss_one (ps_ret (pe_callTy call_tuple_of (by rfl) U.tuple (by decide +kernel) (pa_cons (pv 1) pa_nil)))) pss_nil)
      (pss_one (ps_ret (pe_tup (pa_cons (pe_meth (pv 0) S.cl M GT hr bT .nil pass0 (pa_cons (pv 1) pa_nil)) pa_nil))))), ?_⟩
    refine ⟨_, rfl, x, C, dx, _, .ref pe, rfl, t.ins, S.cl, S.n4, rfl, pe, es, rfl, .inl (.inl t.ens), fun D hD => lc_it walk_enum (fun i H' => Same H H' ∧ H' D = some (.lst ((freesN es i).map fun (m : Nat) => V.int m))) ⟨Same.new hD, upd_same⟩ (fun i H' _ e => .inl (.inl (e.1 _ _ t.ens))) ?_ ?_⟩
    · rintro i _ H' _ hi ⟨s1, e1⟩ ⟨T, a, z, rfl, hT, rfl, ea, ez⟩
      cases ea
      replace ez : es[i]? = some z := ez
      have s2 := s1.push (o := .tup [.int (i : Nat), z]) hT
      have e2 := (Same.new (o := .tup [.int (i : Nat), z]) hT) _ _ e1
      refine ⟨T, _, rfl, .inl (.inl upd_same), rfl, _, _, rfl, _, _, rfl, rfl, rfl, _, rfl, _, rfl, ?_⟩
      cases q : decide (z = V.non) with
      | false =>
        refine iteF ⟨s2, ?_⟩
        have hq : ¬ es[i]? = some V.non := fun q2 => by
          rw [ez] at q2
          injection q2 with q2
          exact of_decide_eq_false q q2
        rw [freesN_succ, if_neg hq, List.append_nil]
        exact e2
      | true =>
        have hq : es[i]? = some V.non := by rw [ez, of_decide_eq_true q]
        refine iteT ⟨_, rfl, _, e2, ?_, s2.put hD, ?_⟩
        · rw [List.length_map]
          have l1 := t.len
          have l2 := t.lim
          have l3 := freesN_le es i
          exact Nat.lt_of_le_of_lt (show (freesN es i).length ≤ 60 by omega) (by decide)
        · rw [upd_same, freesN_succ, if_pos hq, List.map_append]
          rfl
    · rintro H1 ⟨s1, e1⟩
      have e1 : H1 D = some (.lst ((frees es).map V.int)) := by
        rw [e1, frees, List.map_map]
        rfl
      have l60 : (frees es).length ≤ 60 := by
        rw [frees, List.length_map]
        exact Nat.le_trans (freesN_le _ _) (by rw [t.len]; exact t.lim)
      have t1 := t.same s1
      refine ⟨_, rfl, x, C, dx, _, .str bk, rfl, t1.ins, S.cl, S.n2, rfl, rfl, _, rfl, ?_⟩
      by_cases hA : bk = "any"
      · rw [dec_str' hA]
        have k' := k
        rw [freeL, if_pos hA] at k'
        exact iteT (iteT ⟨_, rfl, D, _, rfl, .inl ⟨.inl (.inl e1), fun q hq => k' _ q (s1.push hq) upd_same⟩⟩)
      · rw [dec_str hA]
        have k' := k
        rw [freeL, if_neg hA] at k'
        refine iteF ?_
        cases hf : frees es with
        | nil =>
          rw [hf] at e1 k'
          rw [if_pos rfl] at k'
          exact ⟨_, rfl, false, .inl ⟨_, .inl (.inl e1), rfl⟩, iteT ⟨_, rfl, D, _, rfl, .inl ⟨.inl (.inl e1), fun q hq => k' _ q (s1.push hq) upd_same⟩⟩⟩
        | cons a b =>
          rw [hf] at e1 k' l60
          rw [if_neg (by simp)] at k'
          refine ⟨_, rfl, true, .inl ⟨_, .inl (.inl e1), rfl⟩, iteF ?_⟩
          refine ⟨_, rfl, x, dx, _, rfl, t1.ins, rfl, _, rfl, x, dx, pe, pc, pf, D, n, bk, tn, es, cs, many, start, fr, a :: b, rfl, t1, e1, by simp, l60, fun H2 s2 => ?_⟩
          exact ⟨(by show 1 ≤ sizeLine; decide), fun q hq => k' _ q ((s1.trans s2).push hq) upd_same⟩
end
/-! ### what stays; bad numbers -/
/-- all but the pool and the tables of code is as it was -/
def Mv (p q : Addr) (H H' : Hp) : Prop := ∀ b o, b ≠ p → b ≠ q → (∀ ps, o ≠ .tbl ps) → H b = some o → H' b = some o
theorem Mv.refl (p q : Addr) (H : Hp) : Mv p q H H := fun _ _ _ _ _ h => h
theorem Mv.trans {p q : Addr} {H H1 H2 : Hp} (a : Mv p q H H1) (b : Mv p q H1 H2) : Mv p q H H2 := fun c o n1 n2 n3 h => b c o n1 n2 n3 (a c o n1 n2 n3 h)
theorem Mv.same {p q : Addr} {H H1 : Hp} (a : Same H H1) : Mv p q H H1 := fun c o _ _ _ h => a c o h
theorem Mv.but {p q : Addr} {H H1 : Hp} (a : But p q H H1) : Mv p q H H1 := fun c o n1 n2 _ h => a c o n1 n2 h
theorem Mv.ext {p q : Addr} {H H1 : Hp} (a : LamX.ExtN H H1) : Mv p q H H1 := fun c o _ _ n3 h => a c o h n3
theorem PoolAt.ext {p q : Addr} {H H' : Hp} (h : PoolAt H p q) (a : LamX.ExtN H H') : PoolAt H' p q := by
  obtain ⟨ns, i, x, z, b, h1, h2, h3⟩ := h
  exact ⟨ns, i, x, z, b, a _ _ h1 (fun _ e => by cases e), a _ _ h2 (fun _ e => by cases e), h3⟩
theorem tabs_but {T : List (Addr × Str)} {p q : Addr} {H H' : Hp} (hP : PoolAt H p q) (t : LamX.Tabs T H) (b : But p q H H') : LamX.Tabs T H' := by
  obtain ⟨ns, i, x, z, y, h1, h2, _⟩ := hP
  intro r hr
  obtain ⟨ps, e1, e2, e3⟩ := t r hr
  have far : ∀ c o, H c = some o → (∀ xs, o ≠ .lst xs) → H' c = some o := fun c o e n => b c o (fun q => n _ (by rw [q, h1] at e; exact (Option.some.inj e).symm)) (fun q => n _ (by rw [q, h2] at e; exact (Option.some.inj e).symm)) e
  refine ⟨ps, far _ _ e1 (fun _ e => by cases e), e2, fun pos cv hc => ?_⟩
  obtain ⟨c, e4, e5⟩ := e3 pos cv hc
  exact ⟨c, e4, far _ _ e5 (fun _ e => by unfold LamX.CodeO at e; cases e)⟩
/-- an object beside the pool -/
structure Sf (p q : Addr) (H : Hp) (a : Addr) (o : HO) : Prop where
  e : H a = some o
  np : a ≠ p
  nq : a ≠ q
theorem Sf.same {p q : Addr} {H H' : Hp} {a : Addr} {o : HO} (h : Sf p q H a o) (s : Same H H') : Sf p q H' a o := ⟨s _ _ h.e, h.np, h.nq⟩
theorem Sf.mv {p q : Addr} {H H' : Hp} {a : Addr} {o : HO} (h : Sf p q H a o) (b : Mv p q H H') (n : ∀ ps, o ≠ .tbl ps := by intro _ z; cases z) : Sf p q H' a o := ⟨b _ _ h.np h.nq n h.e, h.np, h.nq⟩
theorem Sf.but {p q : Addr} {H H' : Hp} {a : Addr} {o : HO} (h : Sf p q H a o) (b : But p q H H') : Sf p q H' a o := ⟨b _ _ h.np h.nq h.e, h.np, h.nq⟩
theorem Sf.new {p q : Addr} {H : Hp} {a : Addr} {o : HO} (hP : PoolAt H p q) (h : H a = none) : Sf p q (upd H a o) a o := by
  obtain ⟨ns, i, x, s, b, h1, h2, _⟩ := hP
  exact ⟨upd_same, fun z => ne_of_none h1 h z.symm, fun z => ne_of_none h2 h z.symm⟩
def badBig : Int := 0 - 10 ^ 30
inductive OddV (p q : Addr) (H : Hp) : V → PyData → Prop
  | neg : OddV p q H (.int (-1)) (.int (-1))
  | non : OddV p q H .non .none
  | bl (b : Bool) : OddV p q H (.bl b) (.bool b)
  | one : OddV p q H (.str "1") (.str "1")
  | tup {a : Addr} (h : Sf p q H a (.tup [.int 1])) : OddV p q H (.ref a) (.tuple [.int 1])
  | lst {a : Addr} (h : Sf p q H a (.lst [.int 1])) : OddV p q H (.ref a) (.list [.int 1])
  | dct {a : Addr} (h : Sf p q H a (.dK [])) : OddV p q H (.ref a) (.dict [])
  | big : OddV p q H (.int badBig) (.int badBig)
theorem OddV.mv {p q : Addr} {H H' : Hp} {v : V} {d : PyData} (h : OddV p q H v d) (b : Mv p q H H') : OddV p q H' v d := by
  cases h with
  | neg => exact .neg
  | non => exact .non
  | bl b => exact .bl b
  | one => exact .one
  | tup h => exact .tup (h.mv b)
  | lst h => exact .lst (h.mv b)
  | dct h => exact .dct (h.mv b)
  | big => exact .big
theorem OddV.kd {p q : Addr} {H : Hp} {v : V} {d : PyData} (h : OddV p q H v d) : ∃ n, Kd H v n := by
  cases h with
  | neg => exact ⟨_, .int _⟩
  | non => exact ⟨_, .non⟩
  | bl b => exact ⟨_, .bl b⟩
  | one => exact ⟨_, .str _ (by decide)⟩
  | tup h => exact ⟨_, .tup h.e⟩
  | lst h => exact ⟨_, .lst h.e⟩
  | dct h => exact ⟨_, .dK h.e⟩
  | big => exact ⟨_, .int _⟩
theorem OddV.cnt {p q : Addr} {H : Hp} {v : V} {d : PyData} (h : OddV p q H v d) : isCount v = false := by
  cases h <;> rfl
theorem OddV.rp {K : PySem.W.Frag} {p q : Addr} {H : Hp} {v : V} {d : PyData} (h : OddV p q H v d) : Rp K H v d := by
  cases h with
  | neg => exact .inl (.int _)
  | non => exact .inl .non
  | bl b => exact .inl (.bl b)
  | one => exact .inl (.str _)
  | tup h => exact .inl (.tup (.inl (.inl h.e)) (.cons (.int _) .nil))
  | lst h => exact .inl (.lst (.inl (.inl h.e)) (.cons (.int _) .nil))
  | dct h => exact .inr ⟨_, rfl, h.e, rfl⟩
  | big => exact .inl (.int _)
theorem OddV.ok {p q : Addr} {H : Hp} {v : V} {d : PyData} (h : OddV p q H v d) : okD d = true := by
  cases h with
  | bl b => cases b <;> decide +kernel
  | _ => decide +kernel
theorem okD_strOk {d : PyData} (h : okD d = true) : PyData.strOk d.shown = true := by
  unfold okD at h
  rw [Bool.and_eq_true] at h
  exact h.2
/-- ['word', repr(..)] as data -/
theorem shaped_two {x : String} {z : Str} (h : PyData.strOk z = true) : SeqAt.shaped (.list [.str (Str.ofString x), .str z]) = true := by
  have e : PyData.canLay0 (.list [.str (Str.ofString x), .str z]) = true := by
    show ((PyData.strOk (Str.ofString x)) && (PyData.strOk z && true)) = true
    rw [strOk_of, h]
    rfl
  unfold SeqAt.shaped
  rw [e]
  rfl
theorem eqv_two (x z : Str) : PyData.eqv (.list [.str x, .str z]) (.list [.str x, .str z]) = true := by
  show ((x == x) && ((z == z) && true)) = true
  simp
theorem dp_two {K : PySem.W.Frag} {H : Hp} {a : Addr} {x z : Str} (e : H a = some (.lst [.str x, .str z])) : Dp K H (.ref a) (.list [.str x, .str z]) := .lst (.inl (.inl e)) (.cons (.str _) (.cons (.str _) .nil))
abbrev sBad : Stmt := top 33
def spBad : Sp := fun vs H Q _ => ∃ (p q : Addr), vs = [.ref p] ∧ PoolAt H p q ∧ ∀ H' v d, But p q H H' → PoolAt H' p q → OddV p q H' v d → Q v H'
section
variable {P : Program} {w : World} {K : PySem.W.Frag} {mg : Str → Option Value} {base : Heap}
theorem scBad : FnScope ["pool"] ["pool"] (defScope sBad) := ⟨rfl, rfl, rfl, by decide +kernel, rfl, by decide +kernel, by decide +kernel⟩
theorem ok_bad {f fD : Addr} {fd fdD : FuncData} (F : Fun K "_law_bad_number" "_law_bad_number" sBad f fd) (FD : Fun K "_law_draw" "_law_draw" sDraw fD fdD) (bD : Binds K fdD ["pool", "many"] []) (gD : mg "_law_draw" = some (.ref fD))
    (GD : FnOk P w K mg base CX0 2 fD fdD ["pool", "many"] spDraw) : FnOk P w K mg base CX0 3 f fd ["pool"] spBad := by
  refine F.ok scBad (fun vs H Q E h => ?_) (fun cdv A outer s H vs Q E hr h => ?_)
  · obtain ⟨p, q, rfl, _⟩ := h
    rfl
  · obtain ⟨p, q, rfl, hP, k⟩ := h
    refine ⟨_, pss_one (ps_ret (pe_ix ix_list (pe_lst (pa_cons (pe_un un_neg pe_int) (pa_cons pe_non (pa_cons pe_bl (pa_cons pe_str (pa_cons (pe_tup (pa_cons pe_int pa_nil)) (pa_cons (pe_lst (pa_cons pe_int pa_nil)) (pa_cons pe_dnewK (pa_cons pe_bl
      (pa_cons (pe_op op_sub pe_int (pe_op op_pow pe_int pe_int)) pa_nil)))))))))) (pe_call GD hr rfl gD FD.kp bD .nil pass0 (pa_cons (pv 0) (pa_cons pe_int pa_nil))) (fun _ _ => rfl))), ?_⟩
    refine ⟨_, rfl, (by show 1 ≤ sizeLine; decide), fun t ht => ?_⟩
    have st := Same.new (o := .tup [.int 1]) ht
    have ft : Sf p q _ t (.tup [.int 1]) := Sf.new hP ht
    have hP1 := hP.same st
    generalize upd H t (.tup [.int 1]) = H1 at *
    refine ⟨(by show 1 ≤ sizeLine; decide), fun l hl => ?_⟩
    have sl := Same.new (o := .lst [.int 1]) hl
    have fl : Sf p q _ l (.lst [.int 1]) := Sf.new hP1 hl
    have hP2 := hP1.same sl
    have ft2 := ft.same sl
    generalize upd H1 l (.lst [.int 1]) = H2 at *
    refine fun d hd => ?_
    have sd := Same.new (o := .dK []) hd
    have fd' : Sf p q _ d (.dK []) := Sf.new hP2 hd
    have hP3 := hP2.same sd
    have ft3 := ft2.same sd
    have fl3 := fl.same sd
    generalize upd H2 d (.dK []) = H3 at *
    refine ⟨_, _, rfl, rfl, ⟨by decide, by decide, by decide⟩, _, _, rfl, rfl, (by show 9 ≤ sizeLine; decide), fun L hL => ?_⟩
    have sL := Same.new (o := .lst [.int (-1), .non, .bl true, .str "1", .ref t, .ref l, .ref d, .bl false, .int badBig]) hL
    have fL : Sf p q _ L (.lst [.int (-1), .non, .bl true, .str "1", .ref t, .ref l, .ref d, .bl false, .int badBig]) := Sf.new hP3 hL
    have hP4 := hP3.same sL
    have ft4 := ft3.same sL
    have fl4 := fl3.same sL
    have fd4 := fd'.same sL
    have s04 : Same H _ := ((st.trans sl).trans sd).trans sL
    refine ⟨_, rfl, p, q, 9, rfl, hP4, (by decide), (by decide), fun H5 r b5 P5 r0 r9 => ?_⟩
    obtain ⟨j, rfl⟩ := Int.eq_ofNat_of_zero_le r0
    have hb : But p q H H5 := (But.of_same s04).trans b5
    have fL5 := fL.but b5
    have ft5 := ft4.but b5
    have fl5 := fl4.but b5
    have fd5 := fd4.but b5
    have key : ∃ v d', ([.int (-1), .non, .bl true, .str "1", .ref t, .ref l, .ref d, .bl false, .int badBig] : List V)[j]? = some v ∧ OddV p q H5 v d' := by
      match j, r9 with
      | 0, _ => exact ⟨_, _, rfl, .neg⟩
      | 1, _ => exact ⟨_, _, rfl, .non⟩
      | 2, _ => exact ⟨_, _, rfl, .bl true⟩
      | 3, _ => exact ⟨_, _, rfl, .one⟩
      | 4, _ => exact ⟨_, _, rfl, .tup ft5⟩
      | 5, _ => exact ⟨_, _, rfl, .lst fl5⟩
      | 6, _ => exact ⟨_, _, rfl, .dct fd5⟩
      | 7, _ => exact ⟨_, _, rfl, .bl false⟩
      | 8, _ => exact ⟨_, _, rfl, .big⟩
      | n + 9, h => exact absurd h (by omega)
    obtain ⟨v, d', e1, e2⟩ := key
    exact ⟨L, _, _, v, rfl, rfl, .inl (.inl fL5.e), atI_nat e1, k _ v d' hb P5 e2⟩
end
theorem same_made {C : Addr} {H : Hp} {x dx : Addr} (hx : H x = none) (hd : H dx = none) (ne : dx ≠ x) : Same H (upd (upd H dx (.own x)) x (.ins C dx [])) := fun b o e => by
  rw [upd_ne (ne_of_none e hx), upd_ne (ne_of_none e hd)]
  exact e
theorem passF {P : Program} {w : World} {X : Cx} : Passes (L2.CX P w) X (fun _ _ _ => False) := fun _ _ _ _ _ _ _ c => by
  obtain ⟨_, _, _, _, _, _, _, _, _, _, _, _, z⟩ := c
  exact z.elim
/-! ### a def whose code object is known -/
theorem fnG_okC {P : Program} {w : World} {K : PySem.W.Frag} {mg : Str → Option Value} {base : Heap} {k : Nat} {x qual : Str} {st : Stmt} {f : Addr} {oc : Value} {od an : Option Addr} {osl : Array (Option Value)} {kV doc pm cdv ct : Value} {N ps : List Str} {sp : Sp}
    (lk : K.lookup f = some ⟨oc, od, .func (PySem.W.fnOf x qual (defArgs st) (defBody st) (defScope st) .none kV doc pm an cdv ct), osl⟩) (hcd : PySem.W.codeIn K cdv qual = true) (S : FnScope N ps (defScope st))
    (len : ∀ vs H Q E, sp vs H Q E → vs.length = ps.length)
    (body : ∀ (A : Around) (outer : List Env) (s : Shared) (H : Hp) (vs : List V) (Q : VK) (E : XK), A.guards = some [] → Room k (A.deeper (PyProof.Rows.envOfC qual (defScope st) s.heap.objs.size f cdv)) → sp vs H Q E →
      ∃ t, PSs (cxOf CX0 P w K mg base N qual (defScope st) f cdv A outer s H E).nox (defBody st) t ∧ t { nx := fun _ H' => Q .non H', rt := Q } (start N vs) H) :
    FnG P w K mg base CX0 (k + 1) f (PySem.W.fnOf x qual (defArgs st) (defBody st) (defScope st) .none kV doc pm an cdv ct) ps sp := by
  constructor
  · exact len
  intro A outer s H args us vs Q E hg hr e0 hb r hsp
  have hl := len _ _ _ _ hsp
  have old : ∀ b o, base.get? b = some o → s.heap.get? b = some o := fun b o e => (e0.bs b o e).1
  have KX : K.In s.heap := e0.mod.kin.keeps old
  have kinds : ∀ y ∈ ps.zip us, (defScope st).names.lookup y.1 = some .local ∨
      ((defScope st).names.lookup y.1 = some .cell ∧ ((cellsFrom (s.heap.objs.size + 1) (defScope st).names []).lookup y.1).isSome = true) := by
    rintro ⟨n, v⟩ hy
    have q := S.par n (List.of_mem_zip hy).1
    refine q.imp id fun q => ⟨q, ?_⟩
    exact PySem.W.cellsFrom_some _ _ _ (.inl q)
  refine codeAny_call_function hr.depth (KX _ _ lk) rfl S.co S.gen rfl (PySem.W.codeRec_of KX hcd) (hb _ _ _ _ ?_)
  refine wpAny_newFunctionEnv_cells S.kind kinds fun env he s1 z => ?_
  subst he
  refine ⟨(e0.mod.nolimit.keeps old).keeps z.toInCall.keep, PySem.codeAny_func ?_⟩
  obtain ⟨t, ht, hq⟩ := body A outer s H vs Q E hg (hr.deeper _) hsp
  have I := inv_start (CX := CX0) (E := E) (cd := cdv) (f := f) S hr.hd e0 hl r z
  refine wpAny_mono (ht.nox.run [] s1 (start N vs) H _ I hq) (fun fl s' hs => ?_) fun e s' hs => hs
  cases fl with
  | ret u =>
    obtain ⟨v, σ', H', J, rv, q⟩ := hs
    exact ⟨v, H', J.os, J.bare, J.base, J.hok, rv, q⟩
  | next =>
    obtain ⟨σ', H', J, q⟩ := hs
    exact ⟨V.non, H', J.os, J.bare, J.base, J.hok, rfl, q⟩
  | brk => exact hs.choose_spec.choose_spec.2.elim
  | cont => exact hs.choose_spec.choose_spec.2.elim
/-- texts of lists of a few ints -/
theorem okW_ints {ns : List Int} (hl : ns.length ≤ 100) (h : ∀ n ∈ ns, 0 ≤ n ∧ n < 10 ^ 40) : (PyData.list (ns.map PyData.int)).showable = true ∧ (PyData.list (ns.map PyData.int)).depth ≤ 50 ∧ (PyData.list (ns.map PyData.int)).shown.length ≤ 100000 := by
  have a1 : ∀ ms : List Int, (∀ n ∈ ms, 0 ≤ n ∧ n < 10 ^ 40) → PyData.showableAll (ms.map PyData.int) = true := fun ms => by
    induction ms with
    | nil => intro _; rfl
    | cons m ms ih =>
      intro q
      have e1 : PyData.showable (.int m) = true := decide_eq_true (intlen (q m (List.mem_cons_self ..)).1 (q m (List.mem_cons_self ..)).2).2
      show (PyData.showable (.int m) && PyData.showableAll (ms.map PyData.int)) = true
      rw [e1, ih fun n hn => q n (List.mem_cons_of_mem _ hn)]
      rfl
  have a2 : ∀ ms : List Int, PyData.depthAll (ms.map PyData.int) = 0 := fun ms => by
    induction ms with
    | nil => rfl
    | cons m ms ih =>
      show max (PyData.depth (.int m)) (PyData.depthAll (ms.map PyData.int)) = 0
      rw [ih]
      rfl
  have a3 : ∀ ms : List Int, (∀ n ∈ ms, 0 ≤ n ∧ n < 10 ^ 40) → (PyData.shownAll (ms.map PyData.int)).length = ms.length ∧ ((PyData.shownAll (ms.map PyData.int)).map (·.length)).sum ≤ 40 * ms.length := fun ms => by
    induction ms with
    | nil => intro _; exact ⟨rfl, Nat.le_refl _⟩
    | cons m ms ih =>
      intro q
      obtain ⟨i1, i2⟩ := ih fun n hn => q n (List.mem_cons_of_mem _ hn)
      have l1 := (intlen (q m (List.mem_cons_self ..)).1 (q m (List.mem_cons_self ..)).2).1
      have e : PyData.shownAll ((m :: ms).map PyData.int) = Str.ofString (toString m) :: PyData.shownAll (ms.map PyData.int) := rfl
      rw [e, List.length_cons, List.map_cons, List.sum_cons, List.length_cons, i1]
      refine ⟨rfl, ?_⟩
      show (Str.ofString (toString m)).length + _ ≤ _
      omega
  refine ⟨a1 ns h, ?_, ?_⟩
  · show PyData.depthAll (ns.map PyData.int) + 1 ≤ 50
    rw [a2]
    decide
  · obtain ⟨b1, b2⟩ := a3 ns h
    have b3 := PySem.listText_len_le (PyData.shownAll (ns.map PyData.int))
    show (listText (PyData.shownAll (ns.map PyData.int))).length ≤ 100000
    rw [b1] at b3
    omega
theorem pairEq (a b c d : Int) : (if a = c then decide (b = d) else false) = PyData.eqv (.list [.int a, .int b]) (.list [.int c, .int d]) := by
  show _ = ((a == c) && ((b == d) && true))
  by_cases h : a = c
  · rw [if_pos h, h]
    by_cases g : b = d
    · rw [g]
      simp
    · simp [g]
  · rw [if_neg h]
    simp [h]
/-- an object beside the pool is stored to -/
theorem PoolAt.same' {p q a : Addr} {H : Hp} {o : HO} (h : PoolAt H p q) (f : Sf p q H a o) (o' : HO) : PoolAt (upd H a o') p q := by
  obtain ⟨ns, i, x, z, b, h1, h2, h3⟩ := h
  exact ⟨ns, i, x, z, b, by rw [upd_ne f.np.symm]; exact h1, by rw [upd_ne f.nq.symm]; exact h2, h3⟩
theorem tabs_put {T : List (Addr × Str)} {p q a : Addr} {H : Hp} {xs : List V} (t : LamX.Tabs T H) (f : Sf p q H a (.lst xs)) (o' : HO) : LamX.Tabs T (upd H a o') := by
  intro r hr
  obtain ⟨ps, e1, e2, e3⟩ := t r hr
  have far : ∀ c o, H c = some o → (∀ xs, o ≠ .lst xs) → upd H a o' c = some o := fun c o e n => by
    rw [upd_ne (fun z => n xs (by rw [z, f.e] at e; exact (Option.some.inj e).symm))]
    exact e
  refine ⟨ps, far _ _ e1 (fun _ e => by cases e), e2, fun pos cv hc => ?_⟩
  obtain ⟨c, e4, e5⟩ := e3 pos cv hc
  exact ⟨c, e4, far _ _ e5 (fun _ e => by unfold LamX.CodeO at e; cases e)⟩
theorem ifTwo {A B : Prop} {x z : Str} (h : B) : if (!PyData.eqv (.list [.str x, .str z]) (.list [.str x, .str z])) = true then A else B := by
  rw [eqv_two]
  exact h
/-! ### drawn sizes, books and turns -/
abbrev sOk : Stmt := top 34
def spOk : Sp := fun vs H Q _ => ∃ (v : V) (n : String) (lo hi : Int), vs = [v, .int lo, .int hi] ∧ Kd H v n ∧ Q (.bl (inB v lo hi)) H
theorem between_eq {v : V} {lo hi : Int} (h : 0 ≤ lo) : isBetween v lo hi = inB v lo hi := by
  cases v with
  | int i =>
    show (decide (0 ≤ i) && (decide (lo ≤ i) && decide (i ≤ hi))) = (decide (lo ≤ i) && decide (i ≤ hi))
    by_cases g : lo ≤ i
    · have : 0 ≤ i := by omega
      simp [g, this]
    · simp [g]
  | _ => rfl
def wordsL : List Str := ["least", "any", "next", "last", "Least", ""]
inductive ValV (p q : Addr) (H : Hp) : V → PyData → Prop
  | int (n : Nat) (h : n < 62) : ValV p q H (.int (n : Nat)) (.int (n : Nat))
  | str (z : Str) (h : z ∈ wordsL) : ValV p q H (.str z) (.str z)
  | odd {v : V} {d : PyData} (o : OddV p q H v d) : ValV p q H v d
  | tupA {a : Addr} (h : Sf p q H a (.tup [.str "any"])) : ValV p q H (.ref a) (.tuple [.str "any"])
  | lstA {a : Addr} (h : Sf p q H a (.lst [.str "any"])) : ValV p q H (.ref a) (.list [.str "any"])
section
variable {K : PySem.W.Frag} {p q : Addr} {H H' : Hp} {v : V} {d : PyData}
theorem ValV.mv (h : ValV p q H v d) (b : Mv p q H H') : ValV p q H' v d := by
  cases h with
  | int n h => exact .int n h
  | str z h => exact .str z h
  | odd o => exact .odd (o.mv b)
  | tupA h => exact .tupA (h.mv b)
  | lstA h => exact .lstA (h.mv b)
theorem ValV.kd (h : ValV p q H v d) : ∃ n, Kd H v n := by
  cases h with
  | int n h => exact ⟨_, .int _⟩
  | str z h =>
    have a : wordsL.all (fun z => decide (z.length ≤ 1000)) = true := by decide +kernel
    exact ⟨_, .str z (of_decide_eq_true (List.all_eq_true.mp a z h))⟩
  | odd o => exact o.kd
  | tupA h => exact ⟨_, .tup h.e⟩
  | lstA h => exact ⟨_, .lst h.e⟩
theorem ValV.rp (h : ValV p q H v d) : Rp K H v d := by
  cases h with
  | int n h => exact .inl (.int _)
  | str z h => exact .inl (.str _)
  | odd o => exact o.rp
  | tupA h => exact .inl (.tup (.inl (.inl h.e)) (.cons (.str _) .nil))
  | lstA h => exact .inl (.lst (.inl (.inl h.e)) (.cons (.str _) .nil))
theorem ValV.ok (h : ValV p q H v d) : okD d = true := by
  cases h with
  | int n h =>
    have a : ∀ n, n < 62 → okD (.int ((n : Nat) : Int)) = true := by decide +kernel
    exact a n h
  | str z h =>
    have a : wordsL.all (fun z => okD (.str z)) = true := by decide +kernel
    exact List.all_eq_true.mp a z h
  | odd o => exact o.ok
  | tupA h => decide +kernel
  | lstA h => decide +kernel
end
/-- what the law wishes of the error -/
def wantD (v1 v2 v3 : V) (d1 d2 d3 : PyData) : PyData :=
  if inB v1 1 60 = false then .list [.str "number", .str d1.shown] else if isBook v2 = false then .list [.str "book", .str d2.shown] else if inB v3 1 4 = false then .list [.str "number", .str d3.shown] else .none
/-- a list of a word and a text, or None -/
inductive WantAt (H : Hp) : V → PyData → Prop
  | non : WantAt H .non .none
  | two {a : Addr} {x : String} {z : Str} (e : H a = some (.lst [.str (Str.ofString x), .str z])) (o : PyData.strOk z = true) : WantAt H (.ref a) (.list [.str (Str.ofString x), .str z])
theorem WantAt.same {H H' : Hp} {v : V} {d : PyData} (h : WantAt H v d) (s : LamX.ExtN H H') : WantAt H' v d := by
  cases h with
  | non => exact .non
  | two e o => exact .two (s _ _ e (fun _ e => by cases e)) o
theorem WantAt.dp {K : PySem.W.Frag} {H : Hp} {v : V} {d : PyData} (h : WantAt H v d) : Dp K H v d ∧ SeqAt.shaped d = true := by
  cases h with
  | non => exact ⟨.non, rfl⟩
  | two e o => exact ⟨dp_two e, shaped_two o⟩
section
variable {K : PySem.W.Frag} {C CN CB : Addr} {H : Hp}
/-- all is right: a table at a new address -/
theorem mkT_ok {n m : Nat} {z : Str} {Q : Addr → Hp → Prop} {E : XK} (h1 : isBetween (.int (n : Nat)) 1 60 = true) (h2 : isBook (.str z) = true) (h3 : isBetween (.int (m : Nat)) 1 4 = true) (hz : z.length ≤ 1000)
    (k : ∀ H' x dx pe pc pf, Same H H' → H x = none → TAt H' C x dx pe pc pf n z (m : Nat) (List.replicate n .non) (List.replicate n 0) 0 0 [] → H pe = none → H pc = none → H pf = none → Q x H') :
    ∀ x dx, H x = none → H dx = none → dx ≠ x → spTable C CN CB [.ref x, .int (n : Nat), .str z, .int (m : Nat)] (upd (upd H dx (.own x)) x (.ins C dx [])) (fun v H3 => v = .non ∧ Q x H3) E := by
  intro x dx hx hd ne
  have old : ∀ a, (upd (upd H dx (.own x)) x (.ins C dx [])) a = none → H a = none := fun a e => by
    have n1 : a ≠ x := fun z => by rw [z, upd_same] at e; cases e
    rw [upd_ne n1] at e
    have n2 : a ≠ dx := fun z => by rw [z, upd_same] at e; cases e
    rwa [upd_ne n2] at e
  refine ⟨x, dx, .int (n : Nat), .str z, .int (m : Nat), _, _, _, rfl, upd_same, .int _, .str z hz, .int _, fun q => ?_, fun _ q => ?_, fun _ _ q => ?_, fun _ _ _ H' n' pe pc pf en s ei ee ec ef he hc hf => ⟨rfl, ?_⟩⟩
  · rw [h1] at q; cases q
  · rw [h2] at q; cases q
  · rw [h3] at q; cases q
  · have n60 := (between_int h1).choose_spec
    obtain ⟨i, ei', _, _, i60⟩ := between_int h1
    injection ei' with ei'
    injection en with en
    subst en
    rw [Int.toNat_natCast] at ee ec
    refine k H' x dx pe pc pf ?_ hx ⟨ei, ee, ?_, ef, by rw [List.length_replicate], by rw [List.length_replicate], by omega⟩ (old _ he) (old _ hc) (old _ hf)
    · intro b u q
      exact s b u (ne_of_none q hx) (same_made hx hd ne b u q)
    · rw [List.map_replicate]
      exact ec
variable {v1 v2 v3 : V} {k1 k2 k3 : String} {Q : Addr → VK} {E : XK}
/-- the first, second, third is wrong -/
theorem mkT_bad (h1 : Kd H v1 k1) (h2 : Kd H v2 k2) (h3 : Kd H v3 k3) (b1 : isBetween v1 1 60 = false → Bad E H CN v1) (b2 : isBetween v1 1 60 = true → isBook v2 = false → Bad E H CB v2) (b3 : isBetween v1 1 60 = true → isBook v2 = true → isBetween v3 1 4 = false → Bad E H CN v3)
    (no : isBetween v1 1 60 = true → isBook v2 = true → isBetween v3 1 4 = true → False) :
    ∀ x dx, H x = none → H dx = none → dx ≠ x → spTable C CN CB [.ref x, v1, v2, v3] (upd (upd H dx (.own x)) x (.ins C dx [])) (Q x) E := by
  intro x dx hx hd ne
  have s := same_made (C := C) hx hd ne
  exact ⟨x, dx, v1, v2, v3, _, _, _, rfl, upd_same, h1.same s, h2.same s, h3.same s, fun q => (b1 q).imp s, fun q1 q2 => (b2 q1 q2).imp s, fun q1 q2 q3 => (b3 q1 q2 q3).imp s, fun q1 q2 q3 => (no q1 q2 q3).elim⟩
end
/-! ### the ways in which a table is asked for -/
theorem tb_binds {K : PySem.W.Frag} {f : Addr} {fd : FuncData} (F : FunD K "__init__" "Table.__init__" (defArgs sTbInit) (defBody sTbInit) (defScope sTbInit) [] [("book", .str "least"), ("turns", .int 1)] f fd) :
    KBn K fd ["self", "size", "book", "turns"] 2 ["book", "turns"] (fun us ws => us ++ ws) (fun vs zs => vs ++ zs) ∧
    ∃ ds, Vals [.str "least", .int 1] ds ∧ Binds K fd ["self", "size", "book", "turns"] ds := by
  refine ⟨?_, ?_⟩
  · obtain ⟨_, z⟩ := F.kbinds0 (ps := ["self", "size", "book", "turns"]) 2 ["book", "turns"] [] (fun {α} vs _ zs => vs ++ zs) (by simp) (fun _ h => nomatch h) (fun r1 _ r3 => r1.append r3) (fun D doc pm an cdv ct us mv ws l1 l2 l3 => by
      match us, mv, ws, l1, l2, l3 with
      | [a, b], [], [e, g], _, _, _ => rfl)
    exact z
  · exact F.binds0 (ps := ["self", "size", "book", "turns"]) 2 (by simp) rfl (fun D doc pm an cdv ct us ks l1 l2 => by
      match us, ks, l1, l2 with
      | [a, b], [e, g], _, _ => exact ⟨_, _, _, _, _, _, rfl, rfl, ⟨_, _, _, _, _, _, rfl, rfl, rfl⟩⟩)
section
variable {P : Program} {w : World} {K : PySem.W.Frag} {mg : Str → Option Value} {base : Heap}
theorem scOk : FnScope ["value", "low", "high"] ["value", "low", "high"] (defScope sOk) := ⟨rfl, rfl, rfl, by decide +kernel, rfl, by decide +kernel, by decide +kernel⟩
theorem ok_ok {f : Addr} {fd : FuncData} (F : Fun K "_law_ok" "_law_ok" sOk f fd) (T : MTxt K mg) : FnOk P w K mg base CX0 1 f fd ["value", "low", "high"] spOk := by
  refine F.ok scOk (fun vs H Q E h => ?_) (fun cdv A outer s H vs Q E hr h => ?_)
  · obtain ⟨v, n, lo, hi, rfl, _⟩ := h
    rfl
  · obtain ⟨v, n, lo, hi, rfl, hk, k⟩ := h
    refine ⟨_, pss_one (ps_ret (pe_and (pe_callB call_isi (by rfl) T.isi (by decide +kernel) (pa_cons (pv 0) (pa_cons (pe_bltn (v := .ty "int") (by rfl) T.int (by decide +kernel) rfl) pa_nil)))
      (pe_and (pe_not (pe_callB call_isi (by rfl) T.isi (by decide +kernel) (pa_cons (pv 0) (pa_cons (pe_bltn (v := .ty "bool") (by rfl) T.bool (by decide +kernel) rfl) pa_nil)))) (pe_one (pe_chain op_le op_le (pv 1) (pv 0) (pv 2)))))), ?_⟩
    have ty : TyX K H v (.type n) := hk.ty
    cases hk with
    | int i =>
      refine ⟨_, rfl, _, _, _, _, true, rfl, .ty _, ty, kit_ty (by decide +kernel), _, rfl, iteT ⟨_, rfl, _, _, _, _, false, rfl, .ty _, ty, kit_ty (by decide +kernel), _, rfl, _, rfl, iteT ⟨_, rfl, _, rfl, _, _, rfl, rfl, _, rfl, ?_⟩⟩⟩
      have k2 : Q (.bl (decide (lo ≤ i) && decide (i ≤ hi))) H := k
      cases e2 : decide (lo ≤ i) with
      | false =>
        rw [e2] at k2
        exact iteF k2
      | true =>
        rw [e2] at k2
        exact iteT ⟨_, rfl, _, _, rfl, rfl, k2⟩
    | bl b => exact ⟨_, rfl, _, _, _, _, true, rfl, .ty _, ty, kit_ty (by decide +kernel), _, rfl, iteT ⟨_, rfl, _, _, _, _, true, rfl, .ty _, ty, kit_ty (by decide +kernel), _, rfl, _, rfl, iteF k⟩⟩
    | non => exact ⟨_, rfl, _, _, _, _, false, rfl, .ty _, ty, kit_ty (by decide +kernel), _, rfl, iteF k⟩
    | str z hz => exact ⟨_, rfl, _, _, _, _, false, rfl, .ty _, ty, kit_ty (by decide +kernel), _, rfl, iteF k⟩
    | lst e => exact ⟨_, rfl, _, _, _, _, false, rfl, .ty _, ty, kit_ty (by decide +kernel), _, rfl, iteF k⟩
    | tup e => exact ⟨_, rfl, _, _, _, _, false, rfl, .ty _, ty, kit_ty (by decide +kernel), _, rfl, iteF k⟩
    | dK e => exact ⟨_, rfl, _, _, _, _, false, rfl, .ty _, ty, kit_ty (by decide +kernel), _, rfl, iteF k⟩
end
/-! ### a join behind a statement -/
theorem pss_join {X : Cx} {st : Stmt} {rest : List Stmt} {t u : TS} (h1 : PS X st t) (h2 : PSs X rest u) : PSs X (st :: rest) (fun D σ H => ∃ J : L2.St → Hp → Prop, t { D with nx := J } σ H ∧ ∀ σ' H', J σ' H' → u D σ' H') := by
  refine ⟨fun pins s σ H D I h => ?_⟩
  obtain ⟨J, h, hJ⟩ := h
  refine wpAny_execs_cons (thn (h1.run pins s σ H { D with nx := J } I h) fun f s1 q => ?_)
  cases f with
  | next =>
    obtain ⟨σ', H', I', q⟩ := q
    exact h2.run pins s1 σ' H' D I' (hJ _ _ q)
  | ret v => exact q
  | brk => exact q
  | cont => exact q
abbrev sLaw : Stmt := top 35
def lamName : Str := "law" ++ ".<locals>." ++ "<lambda>"
def spLaw (K : PySem.W.Frag) (PT0 : Addr) : Sp := fun vs H Q _ => ∃ (a : Addr) (ns : List Int), vs = [.ref a] ∧ SqL K H a (ns.map V.int) ∧ ns.length ≤ 63 ∧ H PT0 = some (.tbl #[]) ∧ ∀ H', Q (.bl true) H'
/-- the loop's own state -/
structure St7 (p q : Addr) (T : List (Addr × Str)) (v1 v2 v3 : V) (d1 d2 d3 : PyData) (H : Hp) : Prop where
  pool : PoolAt H p q
  tabs : LamX.Tabs T H
  a : ValV p q H v1 d1
  b : ValV p q H v2 d2
  c : ValV p q H v3 d3
theorem St7.step {p q : Addr} {T : List (Addr × Str)} {v1 v2 v3 : V} {d1 d2 d3 : PyData} {H H' : Hp} (h : St7 p q T v1 v2 v3 d1 d2 d3 H) (x : LamX.ExtN H H') (t : LamX.Tabs T H') : St7 p q T v1 v2 v3 d1 d2 d3 H' :=
  ⟨h.pool.ext x, t, h.a.mv (.ext x), h.b.mv (.ext x), h.c.mv (.ext x)⟩
/-- a text that is drawn -/
theorem ValV.str_of {p q : Addr} {H : Hp} {z : Str} {d : PyData} (h : ValV p q H (.str z) d) : d = .str z ∧ z.length ≤ 1000 ∧ PyData.strOk z = true := by
  cases h with
  | str z h =>
    have a : wordsL.all (fun z => decide (z.length ≤ 1000) && PyData.strOk z) = true := by decide +kernel
    have b := List.all_eq_true.mp a z h
    rw [Bool.and_eq_true, decide_eq_true_eq] at b
    exact ⟨rfl, b.1, b.2⟩
  | odd o =>
    cases o with
    | one => exact ⟨rfl, by decide, by decide +kernel⟩
/-- not all three are right: which is told -/
theorem mkT_odd {cs : List Addr} {C : Addr} {p q : Addr} {H : Hp} {v1 v2 v3 : V} {d1 d2 d3 : PyData} (h1 : ValV p q H v1 d1) (h2 : ValV p q H v2 d2) (h3 : ValV p q H v3 d3) (ng : ¬ (inB v1 1 60 = true ∧ isBook v2 = true ∧ inB v3 1 4 = true)) :
    ∃ (i : Nat) (x : String) (v : V) (d : PyData), i < 11 ∧ whichL.getD i "" = Str.ofString x ∧ ((v = v1 ∧ d = d1) ∨ (v = v2 ∧ d = d2) ∨ (v = v3 ∧ d = d3)) ∧ wantD v1 v2 v3 d1 d2 d3 = .list [.str (Str.ofString x), .str d.shown] ∧
      ∀ (Q : Addr → VK) (E : XK), Bad E H (cs.getD i 0) v → ∀ x dx, H x = none → H dx = none → dx ≠ x → spTable C (cs.getD 0 0) (cs.getD 6 0) [.ref x, v1, v2, v3] (upd (upd H dx (.own x)) x (.ins C dx [])) (Q x) E := by
  obtain ⟨k1, g1⟩ := h1.kd
  obtain ⟨k2, g2⟩ := h2.kd
  obtain ⟨k3, g3⟩ := h3.kd
  have e1 : isBetween v1 1 60 = inB v1 1 60 := between_eq (by decide)
  have e3 : isBetween v3 1 4 = inB v3 1 4 := between_eq (by decide)
  cases c1 : inB v1 1 60 with
  | false =>
    refine ⟨0, "number", v1, d1, by decide, rfl, .inl ⟨rfl, rfl⟩, by rw [wantD, if_pos c1], fun Q E b => mkT_bad g1 g2 g3 (fun _ => b) (fun q => ?_) (fun q => ?_) (fun q => ?_)⟩ <;> (rw [e1, c1] at q; cases q)
  | true =>
    cases c2 : isBook v2 with
    | false =>
      refine ⟨6, "book", v2, d2, by decide, rfl, .inr (.inl ⟨rfl, rfl⟩), by rw [wantD, if_neg (by rw [c1]; simp), if_pos c2], fun Q E b => mkT_bad g1 g2 g3 (fun q => ?_) (fun _ _ => b) (fun _ q => ?_) (fun _ q => ?_)⟩
      · rw [e1, c1] at q; cases q
      · rw [c2] at q; cases q
      · rw [c2] at q; cases q
    | true =>
      cases c3 : inB v3 1 4 with
      | true => exact absurd ⟨c1, c2, c3⟩ ng
      | false =>
        refine ⟨0, "number", v3, d3, by decide, rfl, .inr (.inr ⟨rfl, rfl⟩), by rw [wantD, if_neg (by rw [c1]; simp), if_neg (by rw [c2]; simp), if_pos c3], fun Q E b => mkT_bad g1 g2 g3 (fun q => ?_) (fun _ q => ?_) (fun _ _ _ => b) (fun _ _ q => ?_)⟩
        · rw [e1, c1] at q; cases q
        · rw [c2] at q; cases q
        · rw [e3, c3] at q; cases q
theorem want_good {v1 v2 v3 : V} {d1 d2 d3 : PyData} (h : inB v1 1 60 = true ∧ isBook v2 = true ∧ inB v3 1 4 = true) : wantD v1 v2 v3 d1 d2 d3 = .none := by
  rw [wantD, if_neg (by rw [h.1]; simp), if_neg (by rw [h.2.1]; simp), if_neg (by rw [h.2.2]; simp)]
theorem WantAt.isNon {H : Hp} {W : V} (h : WantAt H W .none) : W = .non := by
  cases h
  rfl
theorem WantAt.isRef {H : Hp} {W : V} {d : PyData} (h : WantAt H W d) (hd : d ≠ .none) : ∃ a, W = .ref a := by
  cases h with
  | non => exact absurd rfl hd
  | two e o => exact ⟨_, rfl⟩
theorem TAt.ext {H H' : Hp} {C x dx pe pc pf : Addr} {n : Nat} {bk : Str} {tn : Int} {es : List V} {cs : List Int} {many start : Int} {fr : List Int} (h : TAt H C x dx pe pc pf n bk tn es cs many start fr) (s : LamX.ExtN H H') : TAt H' C x dx pe pc pf n bk tn es cs many start fr :=
  ⟨s _ _ h.ins (fun _ e => by cases e), s _ _ h.ens (fun _ e => by cases e), s _ _ h.cnt (fun _ e => by cases e), s _ _ h.fre (fun _ e => by cases e), h.len, h.lec, h.lim⟩
theorem count_rep (n : Nat) : countE (List.replicate n V.non) = 0 := by
  unfold countE
  rw [List.length_eq_zero_iff, List.filter_eq_nil_iff]
  intro v hv
  rw [List.eq_of_mem_replicate hv]
  decide
/-- an item that is no number of the table -/
def ItOk (K : PySem.W.Frag) (H : Hp) (v : V) (d : PyData) (n : Nat) : Prop := (∃ k, Kd H v k) ∧ isIndex v n = false ∧ Rp K H v d ∧ okD d = true
theorem itOk {K : PySem.W.Frag} {t : Addr} {n : Nat} (h1 : 1 ≤ n) (h60 : n ≤ 60) {i : Nat} {v : V} (hv : ([.int (n : Nat), .int (-1), .non, .bl true, .str "0", .ref t] : List V)[i]? = some v) : ∃ d, ∀ H, H t = some (.tup [.int 0]) → ItOk K H v d n := by
  have a : ∀ n, n < 62 → okD (.int ((n : Nat) : Int)) = true := by decide +kernel
  match i, hv with
  | 0, e =>
    cases e
    refine ⟨.int (n : Nat), fun H _ => ⟨⟨_, .int _⟩, ?_, .inl (.int _), a n (by omega)⟩⟩
    show (decide (0 ≤ (n : Int)) && decide ((n : Int) < (n : Nat))) = false
    simp
  | 1, e => cases e; exact ⟨.int (-1), fun H _ => ⟨⟨_, .int _⟩, rfl, .inl (.int _), by decide +kernel⟩⟩
  | 2, e => cases e; exact ⟨.none, fun H _ => ⟨⟨_, .non⟩, rfl, .inl .non, by decide +kernel⟩⟩
  | 3, e => cases e; exact ⟨.bool true, fun H _ => ⟨⟨_, .bl _⟩, rfl, .inl (.bl _), by decide +kernel⟩⟩
  | 4, e => cases e; exact ⟨.str "0", fun H _ => ⟨⟨_, .str _ (by decide)⟩, rfl, .inl (.str _), by decide +kernel⟩⟩
  | 5, e => cases e; exact ⟨.tuple [.int 0], fun H h => ⟨⟨_, .tup h⟩, rfl, .inl (.tup (.inl (.inl h)) (.cons (.int _) .nil)), by decide +kernel⟩⟩
section
variable {P : Program} {w : World} {K : PySem.W.Frag} {mg : Str → Option Value} {base : Heap}
theorem scLaw : FnScope ["script", "pool", "k", "wide", "word", "cycle", "wanted", "made", "odd"] ["script"] (defScope sLaw) := ⟨rfl, rfl, rfl, by decide +kernel, rfl, by decide +kernel, by decide +kernel⟩
set_option maxHeartbeats 16000000 in
theorem ok_law {f fB fD fB2 fO fW g C fT fL fI fF cC PT0 cH aB pSi pBo pTu gSi gBo gTu : Addr} {cs : List Addr} {fdB fdD fdB2 fdO fdW fdT fdL fdI fdF fdSi fdBo fdTu : FuncData} {ds1 : List Value}
    {oc kV doc pm ct : Value} {od an : Option Addr} {osl : Array (Option Value)} {oc' kV' doc' pm' cdv' ct' : Value} {od' an' : Option Addr} {osl' : Array (Option Value)}
    (lk : K.lookup f = some ⟨oc, od, .func (PySem.W.fnOf "law" "law" (defArgs sLaw) (defBody sLaw) (defScope sLaw) .none kV doc pm an (.ref cC) ct), osl⟩) (hcd : PySem.W.codeIn K (.ref cC) "law" = true)
    (T : HTxt K mg cH cs) (PT : PTxt mg) (MT : MTxt K mg) (S : TbCls K mg C) (U : TbTxt K mg aB) (TB : LamX.TabB base mg cC PT0)
    (FB : Fun K "_law_begin" "_law_begin" sBegin fB fdB) (bB : Binds K fdB ["script"] []) (gB : mg "_law_begin" = some (.ref fB)) (GB : FnOk P w K mg base CX0 1 fB fdB ["script"] (spBegin K))
    (FD : Fun K "_law_draw" "_law_draw" sDraw fD fdD) (bD : Binds K fdD ["pool", "many"] []) (gD : mg "_law_draw" = some (.ref fD)) (GD : FnOk P w K mg base CX0 2 fD fdD ["pool", "many"] spDraw)
    (FB2 : Fun K "_law_bad_number" "_law_bad_number" sBad fB2 fdB2) (bB2 : Binds K fdB2 ["pool"] []) (gB2 : mg "_law_bad_number" = some (.ref fB2)) (GB2 : FnOk P w K mg base CX0 3 fB2 fdB2 ["pool"] spBad)
    (FO : Fun K "_law_ok" "_law_ok" sOk fO fdO) (bO : Binds K fdO ["value", "low", "high"] []) (gO : mg "_law_ok" = some (.ref fO)) (GO : FnOk P w K mg base CX0 1 fO fdO ["value", "low", "high"] spOk)
    (FW : Fun K "_law_which" "_law_which" sWhich fW fdW) (bW : Binds K fdW ["error"] []) (gW : mg "_law_which" = some (.ref fW))
    (gCt : mg "_law_caught" = some (.ref g)) (kCt : PySem.W.keepIn K (.ref g) = true)
    (lkC : K.lookup g = some ⟨oc', od', .func (PySem.W.fnOf "_law_caught" "_law_caught" (defArgs sCaught) (defBody sCaught) (defScope sCaught) .none kV' doc' pm' an' cdv' ct'), osl'⟩) (hcC : PySem.W.codeIn K cdv' "_law_caught" = true)
    (bCt : Binds K (PySem.W.fnOf "_law_caught" "_law_caught" (defArgs sCaught) (defBody sCaught) (defScope sCaught) .none kV' doc' pm' an' cdv' ct') ["call"] [])
    (MH : Mk K C fT) (GT : FnOk P w K mg base (L2.CX P w) 3 fT fdT ["self", "size", "book", "turns"] (spTable C (cs.getD 0 0) (cs.getD 6 0)))
    (kb : KBn K fdT ["self", "size", "book", "turns"] 2 ["book", "turns"] (fun us ws => us ++ ws) (fun vs zs => vs ++ zs))
    (b1 : Binds K fdT ["self", "size", "book", "turns"] ds1) (d1 : Vals [.str "least", .int 1] ds1)
    (pSi : PropOf K C "size" pSi gSi) (GSi : FnOk P w K mg base CX0 1 gSi fdSi ["self"] (spGet K "_size")) (bSi : Binds K fdSi ["self"] [])
    (pBo : PropOf K C "book" pBo gBo) (GBo : FnOk P w K mg base CX0 1 gBo fdBo ["self"] (spGet K "_book")) (bBo : Binds K fdBo ["self"] [])
    (pTu : PropOf K C "turns" pTu gTu) (GTu : FnOk P w K mg base CX0 1 gTu fdTu ["self"] (spGet K "_turns")) (bTu : Binds K fdTu ["self"] [])
    (hsL : PySem.W.findIn K (.ref C) "__len__" = some (some (.ref fL))) (hfL : PySem.W.isFn K (.ref fL) = true) (GL : FnOk P w K mg base CX0 1 fL fdL ["self"] (spTLen C)) (bL : Binds K fdL ["self"] [])
    (hsI : PySem.W.findIn K (.ref C) "__getitem__" = some (some (.ref fI))) (hfI : PySem.W.fnIn K fI = true) (hfnI : PySem.W.isFn K (.ref fI) = true) (GI : FnOk P w K mg base (L2.CX P w) 3 fI fdI ["self", "at"] (spTItem C (cs.getD 0 0))) (bI : Binds K fdI ["self", "at"] [])
    (MF : Meth K C "free" fF) (GF : FnOk P w K mg base CX0 2 fF fdF ["self"] (spTFree C)) (bF : Binds K fdF ["self"] []) :
    FnG P w K mg base CX0 9 f (PySem.W.fnOf "law" "law" (defArgs sLaw) (defBody sLaw) (defScope sLaw) .none kV doc pm an (.ref cC) ct) ["script"] (spLaw K PT0) := by
  refine fnG_okC lk hcd scLaw (fun vs H Q E h => ?_) (fun A outer s H vs Q E hg hr h => ?_)
  · obtain ⟨a, ns, rfl, _⟩ := h
    rfl
  · obtain ⟨a, ns, rfl, hS, hlen, hT0, k⟩ := h
    have hgX : (cxOf CX0 P w K mg base ["script", "pool", "k", "wide", "word", "cycle", "wanted", "made", "odd"] "law" (defScope sLaw) f (.ref cC) A outer s H E).nox.A.guards = some [] := hg
    refine ⟨_, (pss_cons (ps_set (i := 1) scLaw.nd rfl (.inl rfl) (pe_call GB (hr.mono (by decide)) rfl gB FB.kp bB .nil pass0 (pa_cons (pv 0) pa_nil)))
      (pss_cons (ps_if (pt_cmpR (op_neD hr.units) (pe_glob (v := .ref aB) rfl U.books rfl) (pe_tup (pa_cons pe_str (pa_cons pe_str (pa_cons pe_str (pa_cons pe_str pa_nil))))) (by rfl)) (pss_one (ps_ret pe_bl)) pss_nil)
      (pss_cons (ps_for PassesOwn.never rfl (pi_range1 rfl PT.range (pa_cons pe_int pa_nil)) (pg_name (i := 2) scLaw.nd rfl (.inl rfl))
      (pss_cons (ps_set (i := 3) scLaw.nd rfl (.inr rfl) (pe_ix ix_list (pe_lst (pa_cons pe_int (pa_cons pe_int (pa_cons pe_int (pa_cons pe_int (pa_cons (pe_op op_add pe_int (pe_call GD (hr.mono (by decide)) rfl gD FD.kp bD .nil pass0 (pa_cons (pv 1) (pa_cons pe_int pa_nil)))) (pa_cons (pe_call GB2 (hr.mono (by decide)) rfl gB2 FB2.kp bB2 .nil pass0 (pa_cons (pv 1) pa_nil)) pa_nil))))))) (pe_call GD (hr.mono (by decide)) rfl gD FD.kp bD .nil pass0 (pa_cons (pv 1) (pa_cons pe_int pa_nil))) (fun _ _ => rfl)))
        (pss_cons (ps_set (i := 4) scLaw.nd rfl (.inr rfl) (pe_ix ix_list (pe_lst (pa_cons pe_str (pa_cons pe_str (pa_cons pe_str (pa_cons pe_str (pa_cons pe_str (pa_cons pe_str (pa_cons pe_non (pa_cons pe_int (pa_cons (pe_tup (pa_cons pe_str pa_nil)) (pa_cons (pe_lst (pa_cons pe_str pa_nil)) pa_nil))))))))))) (pe_call GD (hr.mono (by decide)) rfl gD FD.kp bD .nil pass0 (pa_cons (pv 1) (pa_cons pe_int pa_nil))) (fun _ _ => rfl)))
        (pss_cons (ps_set (i := 5) scLaw.nd rfl (.inr rfl) (pe_ix ix_list (pe_lst (pa_cons pe_int (pa_cons pe_int (pa_cons pe_int (pa_cons pe_int (pa_cons pe_int (pa_cons pe_int (pa_cons (pe_call GB2 (hr.mono (by decide)) rfl gB2 FB2.kp bB2 .nil pass0 (pa_cons (pv 1) pa_nil)) pa_nil)))))))) (pe_call GD (hr.mono (by decide)) rfl gD FD.kp bD .nil pass0 (pa_cons (pv 1) (pa_cons pe_int pa_nil))) (fun _ _ => rfl)))
        (pss_cons (ps_set (i := 6) scLaw.nd rfl (.inl rfl) pe_non)
        (pss_join (ps_if (pt_not (pt_val (pe_call GO (hr.mono (by decide)) rfl gO FO.kp bO .nil pass0 (pa_cons (pv 5) (pa_cons pe_int (pa_cons pe_int pa_nil)))))) (pss_one (ps_set (i := 6) scLaw.nd rfl (.inl rfl) (pe_lst (pa_cons pe_str (pa_cons (pe_callB (id := "repr") (r := rReprD K) (call_reprD hgX hr.units) (by rfl) T.reprN (by decide +kernel) (pa_cons (pv 5) pa_nil)) pa_nil))))) pss_nil)
        (pss_join (ps_if (PW.pt (pw_or (pt_not (pt_val (pe_callB call_isi (by rfl) MT.isi (by decide +kernel) (pa_cons (pv 4) (pa_cons (pe_bltn (v := .ty "str") (by rfl) U.str (by decide +kernel) rfl) pa_nil))))) (pw_or1 (pt_cmpR op_notIn_seq (pv 4) (pe_glob (v := .ref aB) rfl U.books rfl) (by rfl))))) (pss_one (ps_set (i := 6) scLaw.nd rfl (.inl rfl) (pe_lst (pa_cons pe_str (pa_cons (pe_callB (id := "repr") (r := rReprD K) (call_reprD hgX hr.units) (by rfl) T.reprN (by decide +kernel) (pa_cons (pv 4) pa_nil)) pa_nil))))) pss_nil)
        (pss_join (ps_if (pt_not (pt_val (pe_call GO (hr.mono (by decide)) rfl gO FO.kp bO .nil pass0 (pa_cons (pv 3) (pa_cons pe_int (pa_cons pe_int pa_nil)))))) (pss_one (ps_set (i := 6) scLaw.nd rfl (.inl rfl) (pe_lst (pa_cons pe_str (pa_cons (pe_callB (id := "repr") (r := rReprD K) (call_reprD hgX hr.units) (by rfl) T.reprN (by decide +kernel) (pa_cons (pv 3) pa_nil)) pa_nil))))) pss_nil)
        (pss_join (ps_if (pt_cmpR (op_neD hr.units) (LamX.pe_lamcall (T := [(PT0, lamName)]) (a := "call") (k := 4) (Ng := ["call", "e"]) (x := "_law_caught") (by rfl) gCt kCt lkC hcC bCt scCaught rfl (.inl rfl) (gives_caught T FW bW gW hgX hr) TB rfl (List.mem_singleton.mpr rfl) (fun r hr _ => by rw [List.mem_singleton.mp hr]; rfl) (hr.mono (by decide)) (LamX.lamS_by (show LamX.lamSB (defScope sLaw) _ = true by decide +kernel)) rfl (fun _ _ _ _ _ => rfl)
        (fun A outer s H E f c' hr2 => pe_makeK (E := E) MH GT (hr2.mono (by decide)) rfl S.g kb (passes_call (takes_of rfl rfl rfl rfl) (fun _ _ _ _ h => h)) (pa_cons (pv 3) pa_nil) (pk_cons (pv 4) (pk_cons (pv 5) pk_nil)))) (pv 6) (nomark _)) (pss_one (ps_ret pe_bl)) pss_nil)
        (pss_one (ps_if (pt_cmp (pc_isN (pv 6)))
        (pss_cons (ps_set (i := 7) scLaw.nd rfl (.inr rfl) (pe_makeK MH GT (hr.mono (by decide)) rfl S.g kb passF (pa_cons (pv 3) pa_nil) (pk_cons (pv 4) (pk_cons (pv 5) pk_nil))))
        (pss_cons (ps_if (pt_cmpR (op_neD hr.units) (pe_lst (pa_cons (pe_prop (pv 7) S.cl pSi GSi (hr.mono (by decide)) bSi .nil pass0 (by rfl)) (pa_cons (pe_prop (pv 7) S.cl pBo GBo (hr.mono (by decide)) bBo .nil pass0 (by rfl)) (pa_cons (pe_prop (pv 7) S.cl pTu GTu (hr.mono (by decide)) bTu .nil pass0 (by rfl)) (pa_cons (pe_callB (call_lenO GL hsL hfL bL (hr.mono (by decide)) pass0) (by rfl) PT.len (by decide +kernel) (pa_cons (pv 7) pa_nil)) pa_nil))))) (pe_lst (pa_cons (pv 3) (pa_cons (pv 4) (pa_cons (pv 5) (pa_cons pe_int pa_nil))))) (nomark _)) (pss_one (ps_ret pe_bl)) pss_nil)
        (pss_cons (ps_if (pt_cmp (pc_notN (pe_ixO GI hsI hfI hfnI bI (hr.mono (by decide)) passF (pv 7) (pe_op op_sub (pv 3) pe_int) (fun _ _ => rfl)))) (pss_one (ps_ret pe_bl)) pss_nil)
        (pss_one (ps_for PassesOwn.never rfl (pi_list (pe_lst (pa_cons (pv 3) (pa_cons (pe_un un_neg pe_int) (pa_cons pe_non (pa_cons pe_bl (pa_cons pe_str (pa_cons (pe_tup (pa_cons pe_int pa_nil)) pa_nil)))))))) (pg_name (i := 8) scLaw.nd rfl (.inr rfl)) (pss_one (ps_if (pt_cmpR (op_neD hr.units) (LamX.pe_lamcall (T := [(PT0, lamName)]) (a := "call") (k := 4) (Ng := ["call", "e"]) (x := "_law_caught") (by rfl) gCt kCt lkC hcC bCt scCaught rfl (.inl rfl) (gives_caught T FW bW gW hgX hr) TB rfl (List.mem_singleton.mpr rfl) (fun r hr _ => by rw [List.mem_singleton.mp hr]; rfl) (hr.mono (by decide)) (LamX.lamS_by (show LamX.lamSB (defScope sLaw) _ = true by decide +kernel)) rfl (fun _ _ _ _ _ => rfl)
        (fun A outer s H E f c' hr2 => pe_ixO (E := E) GI hsI hfI hfnI bI (hr2.mono (by decide)) (passes_call (takes_of rfl rfl rfl rfl) (fun _ _ _ _ h => h)) (pv 7) (pv 8) (fun _ _ => rfl))) (pe_lst (pa_cons pe_str (pa_cons (pe_callB (id := "repr") (r := rReprD K) (call_reprD hgX hr.units) (by rfl) T.reprN (by decide +kernel) (pa_cons (pv 8) pa_nil)) pa_nil))) (nomark _)) (pss_one (ps_ret pe_bl)) pss_nil))))))) pss_nil)))))))))))
      (pss_one (ps_ret (pe_cmpR (op_eqD hr.units) (pe_lst (pa_cons (pe_prop (pe_make MH GT (hr.mono (by decide)) rfl S.g b1 d1 passF (pa_cons pe_int pa_nil)) S.cl pBo GBo (hr.mono (by decide)) bBo .nil pass0 (by rfl)) (pa_cons (pe_prop (pe_make MH GT (hr.mono (by decide)) rfl S.g b1 d1 passF (pa_cons pe_int pa_nil)) S.cl pTu GTu (hr.mono (by decide)) bTu .nil pass0 (by rfl)) (pa_cons (pe_meth0 (pe_make MH GT (hr.mono (by decide)) rfl S.g b1 d1 passF (pa_cons pe_int pa_nil)) S.cl MF GF (hr.mono (by decide)) bF .nil pass0) pa_nil)))) (pe_lst (pa_cons pe_str (pa_cons pe_int (pa_cons (pe_tup (pa_cons pe_int pa_nil)) pa_nil)))) (nomark _))))))), ?_⟩
    refine ⟨_, rfl, a, ns, rfl, hS, hlen, fun H1 p q s1 p0 q0 hP => ?_⟩
    have hT1 : LamX.Tabs [(PT0, lamName)] H1 := fun r hr => by
      rw [List.mem_singleton.mp hr]
      exact .nil (s1 _ _ hT0)
    clear hS s1 hT0
    -- BOOKS
    refine ⟨(by show 4 ≤ sizeLine; decide), fun t ht => ?_⟩
    have st := Same.new (o := .tup booksL) ht
    have et : (upd H1 t (.tup booksL)) t = _ := upd_same
    have hP2 := hP.same st
    have hT2 := hT1.ext st
    change ∃ d, _ at ⊢
    have dB : ∀ {H' : Hp} {x : Addr}, SqT K H' x booksL → Dp K H' (.ref x) (.tuple [.str "least", .str "any", .str "next", .str "last"]) := fun e => .tup e (.cons (.str _) (.cons (.str _) (.cons (.str _) (.cons (.str _) .nil))))
    refine ⟨_, _, dB (U.booksT _), dB (.inl (.inl et)), by decide +kernel, by decide +kernel, _, rfl, ?_⟩
    have eB : PyData.eqv (.tuple [.str "least", .str "any", .str "next", .str "last"]) (.tuple [.str "least", .str "any", .str "next", .str "last"]) = true := by decide +kernel
    rw [eB]
    refine iteF ?_
    refine ⟨16, rfl, by decide, by decide, for_range (lo := 0) (n := 16) (fun i σ H' => ∃ u2 u3 u4 u5 u6 u7 u8, σ = [some (.ref a), some (.ref p), u2, u3, u4, u5, u6, u7, u8] ∧ PoolAt H' p q ∧ LamX.Tabs [(PT0, lamName)] H')
      ⟨_, _, _, _, _, _, _, rfl, hP2, hT2⟩ ?_ ?_⟩
    · clear et st hP hT1 p0 q0 hP2 hT2 ht t H1
      rintro i σ H1 _ ⟨u2, u3, u4, u5, u6, u7, u8, rfl, hP, hT⟩
      -- wide
      refine ⟨_, rfl, p, q, 58, rfl, hP, (by decide), (by decide), fun H2 r2 b2 P2 r20 r21 => ?_⟩
      obtain ⟨n2, rfl⟩ := Int.eq_ofNat_of_zero_le r20
      have T2 := tabs_but hP hT b2
      refine ⟨_, _, rfl, rfl, _, rfl, p, q, rfl, P2, fun H3 o3 d3 b3 P3 O3 => ?_⟩
      have T3 := tabs_but P2 T2 b3
      refine ⟨(by show 6 ≤ sizeLine; decide), fun L hL => ?_⟩
      have sL := Same.new (o := .lst [.int 1, .int 60, .int 61, .int 0, .int (2 + (n2 : Int)), o3]) hL
      have fL : Sf p q _ L (.lst [.int 1, .int 60, .int 61, .int 0, .int (2 + (n2 : Int)), o3]) := Sf.new P3 hL
      have P4 := P3.same sL
      have T4 := T3.ext sL
      have O4 := O3.mv (.same sL)
      generalize upd H3 L (.lst [.int 1, .int 60, .int 61, .int 0, .int (2 + (n2 : Int)), o3]) = H4 at *
      refine ⟨_, rfl, p, q, 6, rfl, P4, (by decide), (by decide), fun H5 r5 b5 P5 r50 r51 => ?_⟩
      obtain ⟨j, rfl⟩ := Int.eq_ofNat_of_zero_le r50
      have T5 := tabs_but P4 T4 b5
      have f5 := fL.but b5
      have O5 := O4.mv (.but b5)
      obtain ⟨v1, d1, e1, V1⟩ : ∃ v d, ([.int 1, .int 60, .int 61, .int 0, .int (2 + (n2 : Int)), o3] : List V)[j]? = some v ∧ ValV p q H5 v d := by
        have e2 : V.int (2 + (n2 : Int)) = V.int ((2 + n2 : Nat) : Int) := by congr 1
        match j, r51 with
        | 0, _ => exact ⟨_, _, rfl, .int 1 (by decide)⟩
        | 1, _ => exact ⟨_, _, rfl, .int 60 (by decide)⟩
        | 2, _ => exact ⟨_, _, rfl, .int 61 (by decide)⟩
        | 3, _ => exact ⟨_, _, rfl, .int 0 (by decide)⟩
        | 4, _ =>
          rw [e2]
          exact ⟨_, _, rfl, .int (2 + n2) (by omega)⟩
        | 5, _ => exact ⟨_, _, rfl, .odd O5⟩
        | n + 6, h => exact absurd h (by omega)
      refine ⟨L, _, _, v1, rfl, rfl, .inl (.inl f5.e), atI_nat e1, ?_⟩
      clear f5 e1 fL sL hL L P4 T4 O4 O5 O3 P3 T3 P2 T2 hP hT b2 b3 b5 H1 H2 H3 H4
      -- word
      refine ⟨(by show 1 ≤ sizeLine; decide), fun t ht => ?_⟩
      have st := Same.new (o := .tup [.str "any"]) ht
      have ft : Sf p q _ t (.tup [.str "any"]) := Sf.new P5 ht
      have P1 := P5.same st
      have T1 := T5.ext st
      have V1' := V1.mv (.same st)
      generalize upd H5 t (.tup [.str "any"]) = H1 at *
      refine ⟨(by show 1 ≤ sizeLine; decide), fun l hl => ?_⟩
      have sl := Same.new (o := .lst [.str "any"]) hl
      have fl : Sf p q _ l (.lst [.str "any"]) := Sf.new P1 hl
      have P2 := P1.same sl
      have T2 := T1.ext sl
      have V2' := V1'.mv (.same sl)
      have ft2 := ft.same sl
      generalize upd H1 l (.lst [.str "any"]) = H2 at *
      refine ⟨(by show 10 ≤ sizeLine; decide), fun L hL => ?_⟩
      have sL := Same.new (o := .lst [.str "least", .str "any", .str "next", .str "last", .str "Least", .str "", .non, .int 3, .ref t, .ref l]) hL
      have fL : Sf p q _ L (.lst [.str "least", .str "any", .str "next", .str "last", .str "Least", .str "", .non, .int 3, .ref t, .ref l]) := Sf.new P2 hL
      have P3 := P2.same sL
      have T3 := T2.ext sL
      have V3' := V2'.mv (.same sL)
      have ft3 := ft2.same sL
      have fl3 := fl.same sL
      generalize upd H2 L (.lst [.str "least", .str "any", .str "next", .str "last", .str "Least", .str "", .non, .int 3, .ref t, .ref l]) = H3 at *
      refine ⟨_, rfl, p, q, 10, rfl, P3, (by decide), (by decide), fun H4 r4 b4 P4 r40 r41 => ?_⟩
      obtain ⟨j2, rfl⟩ := Int.eq_ofNat_of_zero_le r40
      have T4 := tabs_but P3 T3 b4
      have f4 := fL.but b4
      have V4 := V3'.mv (.but b4)
      have ft4 := ft3.but b4
      have fl4 := fl3.but b4
      obtain ⟨v2, d2, e2, W4⟩ : ∃ v d, ([.str "least", .str "any", .str "next", .str "last", .str "Least", .str "", .non, .int 3, .ref t, .ref l] : List V)[j2]? = some v ∧ ValV p q H4 v d := by
        match j2, r41 with
        | 0, _ => exact ⟨_, _, rfl, .str _ (by decide)⟩
        | 1, _ => exact ⟨_, _, rfl, .str _ (by decide)⟩
        | 2, _ => exact ⟨_, _, rfl, .str _ (by decide)⟩
        | 3, _ => exact ⟨_, _, rfl, .str _ (by decide)⟩
        | 4, _ => exact ⟨_, _, rfl, .str _ (by decide)⟩
        | 5, _ => exact ⟨_, _, rfl, .str _ (by decide)⟩
        | 6, _ => exact ⟨_, _, rfl, .odd .non⟩
        | 7, _ => exact ⟨_, _, rfl, .int 3 (by decide)⟩
        | 8, _ => exact ⟨_, _, rfl, .tupA ft4⟩
        | 9, _ => exact ⟨_, _, rfl, .lstA fl4⟩
        | n + 10, h => exact absurd h (by omega)
      refine ⟨L, _, _, v2, rfl, rfl, .inl (.inl f4.e), atI_nat e2, ?_⟩
      clear e2 f4 fL sL hL L P3 T3 V3' ft4 fl4 ft3 fl3 ft2 ft fl V2' V1' V1 P2 T2 P1 T1 sl st ht hl P5 T5 b4 H1 H2 H3 H5
      -- cycle
      refine ⟨_, rfl, p, q, rfl, P4, fun H5 o5 d5 b5 P5 O5 => ?_⟩
      have T5 := tabs_but P4 T4 b5
      have V5 := V4.mv (.but b5)
      have W5 := W4.mv (.but b5)
      refine ⟨(by show 7 ≤ sizeLine; decide), fun L hL => ?_⟩
      have sL := Same.new (o := .lst [.int 1, .int 4, .int 5, .int 0, .int 2, .int 3, o5]) hL
      have fL : Sf p q _ L (.lst [.int 1, .int 4, .int 5, .int 0, .int 2, .int 3, o5]) := Sf.new P5 hL
      have P6 := P5.same sL
      have T6 := T5.ext sL
      have O6 := O5.mv (.same sL)
      have V6 := V5.mv (.same sL)
      have W6 := W5.mv (.same sL)
      generalize upd H5 L (.lst [.int 1, .int 4, .int 5, .int 0, .int 2, .int 3, o5]) = H6 at *
      refine ⟨_, rfl, p, q, 7, rfl, P6, (by decide), (by decide), fun H7 r7 b7 P7 r70 r71 => ?_⟩
      obtain ⟨j3, rfl⟩ := Int.eq_ofNat_of_zero_le r70
      have T7 := tabs_but P6 T6 b7
      have f7 := fL.but b7
      have O7 := O6.mv (.but b7)
      obtain ⟨v3, d3, e3, Z7⟩ : ∃ v d, ([.int 1, .int 4, .int 5, .int 0, .int 2, .int 3, o5] : List V)[j3]? = some v ∧ ValV p q H7 v d := by
        match j3, r71 with
        | 0, _ => exact ⟨_, _, rfl, .int 1 (by decide)⟩
        | 1, _ => exact ⟨_, _, rfl, .int 4 (by decide)⟩
        | 2, _ => exact ⟨_, _, rfl, .int 5 (by decide)⟩
        | 3, _ => exact ⟨_, _, rfl, .int 0 (by decide)⟩
        | 4, _ => exact ⟨_, _, rfl, .int 2 (by decide)⟩
        | 5, _ => exact ⟨_, _, rfl, .int 3 (by decide)⟩
        | 6, _ => exact ⟨_, _, rfl, .odd O7⟩
        | n + 7, h => exact absurd h (by omega)
      have stt : St7 p q [(PT0, lamName)] v1 v2 v3 d1 d2 d3 H7 := ⟨P7, T7, V6.mv (.but b7), W6.mv (.but b7), Z7⟩
      refine ⟨L, _, _, v3, rfl, rfl, .inl (.inl f7.e), atI_nat e3, ?_⟩
      clear e3 f7 fL sL hL L P6 T6 O6 V6 W6 O7 Z7 P7 T7 V5 W5 O5 P5 T5 V4 W4 P4 T4 b5 b7 H4 H5 H6
      -- the wish
      refine ⟨fun σ' H' => ∃ W, σ' = [some (.ref a), some (.ref p), some (.int (0 + (i : Nat))), some v1, some v2, some v3, some W, u7, u8] ∧ WantAt H' W (if inB v3 1 4 = false then .list [.str "number", .str d3.shown] else .none) ∧ St7 p q [(PT0, lamName)] v1 v2 v3 d1 d2 d3 H', ?_, ?_⟩
      · obtain ⟨k3, g3⟩ := stt.c.kd
        refine ⟨_, rfl, v3, k3, 1, 4, rfl, g3, _, rfl, ?_⟩
        cases c3 : inB v3 1 4 with
        | true => exact iteF ⟨_, rfl, .non, stt⟩
        | false =>
          refine iteT ⟨_, rfl, v3, d3, rfl, stt.c.rp, stt.c.ok, (by show 2 ≤ sizeLine; decide), fun l hl => ⟨_, rfl, ?_, ?_⟩⟩
          · exact .two upd_same (okD_strOk stt.c.ok)
          · exact stt.step (.of (Same.new hl)) (stt.tabs.ext (Same.new hl))
      clear stt H7
      rintro _ H1 ⟨W, rfl, hW, stt⟩
      refine ⟨fun σ' H' => ∃ W, σ' = [some (.ref a), some (.ref p), some (.int (0 + (i : Nat))), some v1, some v2, some v3, some W, u7, u8] ∧ WantAt H' W (if isBook v2 = false then .list [.str "book", .str d2.shown] else if inB v3 1 4 = false then .list [.str "number", .str d3.shown] else .none) ∧ St7 p q [(PT0, lamName)] v1 v2 v3 d1 d2 d3 H', ?_, ?_⟩
      · obtain ⟨k2, g2⟩ := stt.b.kd
        have yes : isBook v2 = false → ∀ l, H1 l = none → ∃ W', [some (.ref a), some (.ref p), some (.int (0 + (i : Nat))), some v1, some v2, some v3, some (.ref l), u7, u8] = [some (.ref a), some (.ref p), some (.int (0 + (i : Nat))), some v1, some v2, some v3, some W', u7, u8] ∧
            WantAt (upd H1 l (.lst [.str "book", .str d2.shown])) W' (if isBook v2 = false then .list [.str "book", .str d2.shown] else if inB v3 1 4 = false then .list [.str "number", .str d3.shown] else .none) ∧ St7 p q [(PT0, lamName)] v1 v2 v3 d1 d2 d3 (upd H1 l (.lst [.str "book", .str d2.shown])) := fun c l hl => by
          rw [if_pos c]
          exact ⟨_, rfl, .two upd_same (okD_strOk stt.b.ok), stt.step (.of (Same.new hl)) (stt.tabs.ext (Same.new hl))⟩
        have no : isBook v2 = true → ∃ W', [some (.ref a), some (.ref p), some (.int (0 + (i : Nat))), some v1, some v2, some v3, some W, u7, u8] = [some (.ref a), some (.ref p), some (.int (0 + (i : Nat))), some v1, some v2, some v3, some W', u7, u8] ∧
            WantAt H1 W' (if isBook v2 = false then .list [.str "book", .str d2.shown] else if inB v3 1 4 = false then .list [.str "number", .str d3.shown] else .none) ∧ St7 p q [(PT0, lamName)] v1 v2 v3 d1 d2 d3 H1 := fun c => by
          rw [if_neg (by rw [c]; simp)]
          exact ⟨_, rfl, hW, stt⟩
        have ty : TyX K H1 v2 (.type k2) := g2.ty
        have rp2 : Rp K H1 v2 d2 := stt.b.rp
        have ok2 := stt.b.ok
        cases g2 with
        | str z hz =>
          refine ⟨_, rfl, _, _, _, _, true, rfl, .ty _, ty, kit_ty (by decide +kernel), _, rfl, iteF ⟨_, rfl, aB, booksL, rfl, .inr (U.booksT _), rfl, rfl, _, rfl, ?_⟩⟩
          have c : isBook (.str z) = inV (.str z) booksL := rfl
          cases c2 : inV (V.str z) booksL with
          | true => exact iteF (no (c.trans c2))
          | false => exact iteT ⟨_, rfl, _, d2, rfl, rp2, ok2, (by show 2 ≤ sizeLine; decide), fun l hl => yes (c.trans c2) l hl⟩
        | _ => exact ⟨_, rfl, _, _, _, _, false, rfl, .ty _, ty, kit_ty (by decide +kernel), _, rfl, iteT (iteT ⟨_, rfl, _, d2, rfl, rp2, ok2, (by show 2 ≤ sizeLine; decide), fun l hl => yes rfl l hl⟩)⟩
      clear stt hW W H1
      rintro _ H1 ⟨W, rfl, hW, stt⟩
      refine ⟨fun σ' H' => ∃ W, σ' = [some (.ref a), some (.ref p), some (.int (0 + (i : Nat))), some v1, some v2, some v3, some W, u7, u8] ∧ WantAt H' W (wantD v1 v2 v3 d1 d2 d3) ∧ St7 p q [(PT0, lamName)] v1 v2 v3 d1 d2 d3 H', ?_, ?_⟩
      · obtain ⟨k1, g1⟩ := stt.a.kd
        refine ⟨_, rfl, v1, k1, 1, 60, rfl, g1, _, rfl, ?_⟩
        unfold wantD
        cases c1 : inB v1 1 60 with
        | true => exact iteF ⟨_, rfl, hW, stt⟩
        | false =>
          refine iteT ⟨_, rfl, v1, d1, rfl, stt.a.rp, stt.a.ok, (by show 2 ≤ sizeLine; decide), fun l hl => ⟨_, rfl, ?_, ?_⟩⟩
          · exact .two upd_same (okD_strOk stt.a.ok)
          · exact stt.step (.of (Same.new hl)) (stt.tabs.ext (Same.new hl))
      clear stt hW W H1
      rintro _ H1 ⟨W, rfl, hW, stt⟩
      -- what is caught
      refine ⟨fun σ' H' => σ' = [some (.ref a), some (.ref p), some (.int (0 + (i : Nat))), some v1, some v2, some v3, some W, u7, u8] ∧ WantAt H' W (wantD v1 v2 v3 d1 d2 d3) ∧ St7 p q [(PT0, lamName)] v1 v2 v3 d1 d2 d3 H', ?_, ?_⟩
      · refine ⟨stt.tabs, fun H2 ex t2 E1 hE1 => ?_⟩
        have st2 := stt.step ex t2
        have hW2 := hW.same ex
        refine ⟨_, rfl, _, rfl, _, rfl, rfl, rfl, ?_⟩
        by_cases hg : inB v1 1 60 = true ∧ isBook v2 = true ∧ inB v3 1 4 = true
        · have hw := want_good (d1 := d1) (d2 := d2) (d3 := d3) hg
          have g1 : isBetween v1 1 60 = true := (between_eq (by decide)).trans hg.1
          have g3 : isBetween v3 1 4 = true := (between_eq (by decide)).trans hg.2.2
          obtain ⟨n, rfl, n0, n1, n60⟩ := between_int g1
          obtain ⟨m, rfl, m0, m1, m4⟩ := between_int g3
          obtain ⟨n, rfl⟩ := Int.eq_ofNat_of_zero_le n0
          obtain ⟨m, rfl⟩ := Int.eq_ofNat_of_zero_le m0
          obtain ⟨z, rfl⟩ : ∃ z, v2 = .str z := by
            have h := hg.2.1
            cases v2 <;> first | exact ⟨_, rfl⟩ | cases h
          have hz := (st2.b.str_of).2.1
          refine mkT_ok g1 hg.2.1 g3 hz fun H3 x dx pe pc pf s3 hx t3 _ _ _ => ?_
          rw [hw] at hW2
          have hW3 := hW2.same (.of s3)
          cases hW3.isNon
          refine ⟨_, rfl, _, _, .non, .non, rfl, rfl, _, rfl, iteF ⟨rfl, ?_, st2.step (.of s3) (t2.ext s3)⟩⟩
          rw [hw]
          exact .non
        · obtain ⟨e, x, v, d, he, hx, hv, hw, go⟩ := mkT_odd (cs := cs) (C := C) st2.a st2.b st2.c hg
          have vv : ∀ H', St7 p q [(PT0, lamName)] v1 v2 v3 d1 d2 d3 H' → ValV p q H' v d := fun H' s => by
            rcases hv with ⟨rfl, rfl⟩ | ⟨rfl, rfl⟩ | ⟨rfl, rfl⟩
            · exact s.a
            · exact s.b
            · exact s.c
          refine go _ _ fun dd H3 s3 e3 => hE1 _ _ _ ⟨e, dd, v, d, he, rfl, rfl, e3, (vv _ (st2.step (.of s3) (t2.ext s3))).rp, (vv _ st2).ok, fun H4 r s4 e4 => ?_⟩
          have sall := s3.trans s4
          have st4 := st2.step (.of sall) (t2.ext sall)
          have hW4 := hW2.same (.of sall)
          rw [hx] at e4
          have ok := okD_strOk (vv _ st2).ok
          obtain ⟨dw, sw⟩ := hW4.dp (K := K)
          rw [hw] at dw sw
          refine ⟨_, rfl, _, _, dp_two e4, dw, shaped_two ok, sw, _, rfl, ifTwo ⟨rfl, hW4, st4⟩⟩
      clear stt hW H1
      rintro _ H1 ⟨rfl, hW, stt⟩
      by_cases hg : inB v1 1 60 = true ∧ isBook v2 = true ∧ inB v3 1 4 = true
      · have hw := want_good (d1 := d1) (d2 := d2) (d3 := d3) hg
        rw [hw] at hW
        cases hW.isNon
        have g1 : isBetween v1 1 60 = true := (between_eq (by decide)).trans hg.1
        have g3 : isBetween v3 1 4 = true := (between_eq (by decide)).trans hg.2.2
        obtain ⟨n, rfl, n0, n1, n60⟩ := between_int g1
        obtain ⟨m, rfl, m0, m1, m4⟩ := between_int g3
        obtain ⟨n, rfl⟩ := Int.eq_ofNat_of_zero_le n0
        obtain ⟨m, rfl⟩ := Int.eq_ofNat_of_zero_le m0
        obtain ⟨z, rfl⟩ : ∃ z, v2 = .str z := by
          have h := hg.2.1
          cases v2 <;> first | exact ⟨_, rfl⟩ | cases h
        obtain ⟨_, hz, zok⟩ := stt.b.str_of
        refine ⟨_, rfl, _, rfl, iteT ?_⟩
        -- made
        refine ⟨_, rfl, _, rfl, _, rfl, rfl, rfl, mkT_ok g1 hg.2.1 g3 hz fun H3 x dx pe pc pf s3 hx t3 _ _ _ => ?_⟩
        have st3 := stt.step (.of s3) (stt.tabs.ext s3)
        clear stt s3 hx hW
        refine ⟨_, rfl, x, dx, _, rfl, t3.ins, x, C, dx, _, .int (n : Nat), rfl, t3.ins, S.cl, S.n1, rfl, ?_⟩
        refine ⟨_, rfl, x, dx, _, rfl, t3.ins, x, C, dx, _, .str z, rfl, t3.ins, S.cl, S.n2, rfl, ?_⟩
        refine ⟨_, rfl, x, dx, _, rfl, t3.ins, x, C, dx, _, .int (m : Nat), rfl, t3.ins, S.cl, S.n3, rfl, ?_⟩
        refine ⟨_, rfl, x, dx, _, rfl, t3.ins, x, dx, pe, pc, pf, n, z, _, _, _, _, _, _, rfl, t3, fun H4 s4 => ?_⟩
        have st4 := st3.step (.of s4) (st3.tabs.ext s4)
        have t4 := t3.same s4
        clear st3 t3 s4
        rw [count_rep]
        refine ⟨0, rfl, by decide, by decide, (by show 4 ≤ sizeLine; decide), fun l hl => ?_⟩
        have sl := Same.new (o := .lst [.int (n : Nat), .str z, .int (m : Nat), .int 0]) hl
        have el : (upd H4 l (.lst [.int (n : Nat), .str z, .int (m : Nat), .int 0])) l = _ := upd_same
        have st5 := st4.step (.of sl) (st4.tabs.ext sl)
        have t5 := t4.same sl
        clear st4 t4
        generalize upd H4 l (.lst [.int (n : Nat), .str z, .int (m : Nat), .int 0]) = H5 at *
        refine ⟨_, rfl, _, rfl, _, rfl, (by show 4 ≤ sizeLine; decide), fun l2 hl2 => ?_⟩
        have sl2 := Same.new (o := .lst [.int (n : Nat), .str z, .int (m : Nat), .int 0]) hl2
        have el2 : (upd H5 l2 (.lst [.int (n : Nat), .str z, .int (m : Nat), .int 0])) l2 = _ := upd_same
        have st6 := st5.step (.of sl2) (st5.tabs.ext sl2)
        have t6 := t5.same sl2
        have el6 := sl2 _ _ el
        clear st5 t5 el
        change ∃ d, _ at ⊢
        generalize upd H5 l2 (.lst [.int (n : Nat), .str z, .int (m : Nat), .int 0]) = H6 at *
        have dq : ∀ {r : Addr}, H6 r = some (.lst [.int (n : Nat), .str z, .int (m : Nat), .int 0]) → Dp K H6 (.ref r) (.list [.int (n : Nat), .str z, .int (m : Nat), .int 0]) := fun e => .lst (.inl (.inl e)) (.cons (.int _) (.cons (.str _) (.cons (.int _) (.cons (.int _) .nil))))
        have shq : SeqAt.shaped (.list [.int (n : Nat), .str z, .int (m : Nat), .int 0]) = true := by
          have e : PyData.canLay0 (.list [.int (n : Nat), .str z, .int (m : Nat), .int 0]) = true := by
            show (true && (PyData.strOk z && (true && (true && true)))) = true
            rw [zok]
            rfl
          unfold SeqAt.shaped
          rw [e]
          rfl
        have evq : PyData.eqv (.list [.int (n : Nat), .str z, .int (m : Nat), .int 0]) (.list [.int (n : Nat), .str z, .int (m : Nat), .int 0]) = true := by
          show (((n : Int) == (n : Int)) && ((z == z) && (((m : Int) == (m : Int)) && (((0 : Int) == 0) && true)))) = true
          simp
        refine ⟨_, _, dq el6, dq el2, shq, shq, _, rfl, ?_⟩
        rw [evq]
        refine iteF ?_
        -- made[wide - 1]
        have hn1 : (List.replicate n V.non)[n - 1]? = some V.non := by rw [List.getElem?_replicate, if_pos (by omega)]
        have en : V.int ((n : Int) - 1) = V.int ((n - 1 : Nat) : Int) := by congr 1; omega
        refine ⟨_, rfl, _, rfl, _, _, rfl, rfl, x, dx, _, rfl, t6.ins, x, dx, pe, pc, pf, n, z, _, _, _, _, _, _, _, _, rfl, t6, .int _, fun q => ?_, fun i2 u hi hu => ?_⟩
        · have : isIndex (.int ((n : Int) - 1)) n = true := by
            show (decide (0 ≤ (n : Int) - 1) && decide ((n : Int) - 1 < (n : Nat))) = true
            rw [decide_eq_true (by omega), decide_eq_true (by omega)]
            rfl
          rw [this] at q
          cases q
        · have ei : i2 = n - 1 := by
            injection hi with hi
            omega
          rw [ei, hn1] at hu
          cases hu
          refine ⟨_, rfl, iteF ?_⟩
          clear el2 el6 dq shq evq sl sl2 hl hl2 hn1 en hi ei
          -- for odd in ..
          refine ⟨_, rfl, _, rfl, (by show 1 ≤ sizeLine; decide), fun t ht => ?_⟩
          have s7 := Same.new (o := .tup [.int 0]) ht
          have e7 : (upd H6 t (.tup [.int 0])) t = _ := upd_same
          have st7 := st6.step (.of s7) (st6.tabs.ext s7)
          have t7 := t6.same s7
          clear st6 t6
          generalize upd H6 t (.tup [.int 0]) = H7 at *
          refine ⟨(by show 6 ≤ sizeLine; decide), fun L hL => ?_⟩
          have s8 := Same.new (o := .lst [.int (n : Nat), .int (-1), .non, .bl true, .str "0", .ref t]) hL
          have e8 : (upd H7 L (.lst [.int (n : Nat), .int (-1), .non, .bl true, .str "0", .ref t])) L = _ := upd_same
          have st8 := st7.step (.of s8) (st7.tabs.ext s8)
          have t8 := t7.same s8
          have e78 := s8 _ _ e7
          clear st7 t7 e7
          generalize upd H7 L (.lst [.int (n : Nat), .int (-1), .non, .bl true, .str "0", .ref t]) = H8 at *
          refine ⟨L, rfl, ⟨_, .inl (.inl e8)⟩, for_list (xs := [.int (n : Nat), .int (-1), .non, .bl true, .str "0", .ref t]) (fun _ σ H' => ∃ u8, σ = [some (.ref a), some (.ref p), some (.int (0 + (i : Nat))), some (.int (n : Nat)), some (.str z), some (.int (m : Nat)), some .non, some (.ref x), u8] ∧
            St7 p q [(PT0, lamName)] (.int (n : Nat)) (.str z) (.int (m : Nat)) d1 d2 d3 H' ∧ TAt H' C x dx pe pc pf n z (m : Nat) (List.replicate n .non) (List.replicate n 0) 0 0 [] ∧ H' L = some (.lst [.int (n : Nat), .int (-1), .non, .bl true, .str "0", .ref t]) ∧ H' t = some (.tup [.int 0]))
            ⟨_, rfl, st8, t8, e8, e78⟩ (fun _ _ _ _ e => .inl (.inl (e.choose_spec.2.2.2.1))) ?_ ?_⟩
          · rintro i3 v σ H1' hv ⟨u8, rfl, st, tt, eL, et⟩
            obtain ⟨d, hd⟩ := itOk (K := K) (by omega) (by omega) hv
            refine ⟨st.tabs, fun H2 ex t2 E1 hE1 => ?_⟩
            have st2 := st.step ex t2
            have tt2 := tt.ext ex
            have eL2 := ex _ _ eL (fun _ e => by cases e)
            have et2 := ex _ _ et (fun _ e => by cases e)
            obtain ⟨⟨kv, hkv⟩, ix, rp2, okd⟩ := hd _ et2
            refine ⟨_, rfl, _, rfl, x, dx, _, rfl, tt2.ins, x, dx, pe, pc, pf, n, z, _, _, _, _, _, _, _, _, rfl, tt2, hkv, fun _ => ?_, fun i4 u hi hu => ?_⟩
            · refine fun dd H3 s3 e3 => hE1 _ _ _ ⟨0, dd, v, d, by decide, rfl, rfl, e3, (hd _ (s3 _ _ et2)).2.2.1, okd, fun H4' r s4 e4 => ?_⟩
              have sall := s3.trans s4
              refine ⟨_, rfl, v, d, rfl, (hd _ (sall _ _ et2)).2.2.1, okd, (by show 2 ≤ sizeLine; decide), fun l hl => ?_⟩
              have sl := Same.new (o := .lst [.str "number", .str d.shown]) hl
              have ok := okD_strOk okd
              have s5 := sall.trans sl
              refine ⟨_, _, dp_two (sl _ _ e4), dp_two upd_same, shaped_two ok, shaped_two ok, _, rfl, ifTwo ⟨_, rfl, st2.step (.of s5) (t2.ext s5), tt2.same s5, s5 _ _ eL2, s5 _ _ et2⟩⟩
            · exfalso
              subst hi
              have h4 : i4 < n := by
                have := (List.getElem?_eq_some_iff.mp hu).1
                rwa [List.length_replicate] at this
              have : isIndex (.int (i4 : Nat)) n = true := by
                show (decide (0 ≤ (i4 : Int)) && decide ((i4 : Int) < (n : Nat))) = true
                rw [decide_eq_true (by omega), decide_eq_true (by omega)]
                rfl
              rw [this] at ix
              cases ix
          · rintro σ H1' ⟨u8, rfl, st, _⟩
            exact ⟨_, _, _, _, _, _, _, rfl, st.pool, st.tabs⟩
      · obtain ⟨e, x, v, d, he, hx, hv, hw, go⟩ := mkT_odd (cs := cs) (C := C) stt.a stt.b stt.c hg
        rw [hw] at hW
        obtain ⟨a4, rfl⟩ := hW.isRef (by simp)
        exact ⟨_, rfl, _, rfl, iteF ⟨_, _, _, _, _, _, _, rfl, stt.pool, stt.tabs⟩⟩
    · rintro σ H1 ⟨u2, u3, u4, u5, u6, u7, u8, rfl, _⟩
      have g3 : isBetween (.int ((3 : Nat) : Int)) 1 60 = true := by decide
      have gb : isBook (.str "least") = true := by decide +kernel
      have g1 : isBetween (.int ((1 : Nat) : Int)) 1 4 = true := by decide
      refine mkT_ok (n := 3) (m := 1) (z := "least") g3 gb g1 (by decide) fun H2 x dx pe pc pf s2 hx t2 _ _ _ => ?_
      refine ⟨x, dx, _, rfl, t2.ins, x, C, dx, _, .str "least", rfl, t2.ins, S.cl, S.n2, rfl, ?_⟩
      refine mkT_ok (n := 3) (m := 1) (z := "least") g3 gb g1 (by decide) fun H3 x dx pe pc pf s3 hx t3 _ _ _ => ?_
      refine ⟨x, dx, _, rfl, t3.ins, x, C, dx, _, .int ((1 : Nat) : Int), rfl, t3.ins, S.cl, S.n3, rfl, ?_⟩
      refine mkT_ok (n := 3) (m := 1) (z := "least") g3 gb g1 (by decide) fun H4 x dx pe pc pf s4 hx t4 _ _ _ => ?_
      refine ⟨x, dx, _, rfl, t4.ins, rfl, x, dx, pe, pc, pf, 3, _, _, _, _, _, _, _, rfl, t4, fun H5 r s5 e5 => ?_⟩
      have ef : freeL "least" 0 [] (List.replicate 3 V.non) = [0] := by decide +kernel
      rw [ef] at e5
      refine ⟨(by show 3 ≤ sizeLine; decide), fun l hl => ?_⟩
      have sl := Same.new (o := .lst [.str "least", .int 1, .ref r]) hl
      refine ⟨(by show 1 ≤ sizeLine; decide), fun t ht => ?_⟩
      have st := Same.new (o := .tup [.int 0]) ht
      refine ⟨(by show 3 ≤ sizeLine; decide), fun l2 hl2 => ?_⟩
      have sl2 := Same.new (o := .lst [.str "least", .int 1, .ref t]) hl2
      have dl : ∀ {H' : Hp} {a b : Addr}, H' a = some (.lst [.str "least", .int 1, .ref b]) → H' b = some (.tup [.int 0]) → Dp K H' (.ref a) (.list [.str "least", .int 1, .tuple [.int 0]]) :=
        fun ea eb => .lst (.inl (.inl ea)) (.cons (.str _) (.cons (.int _) (.cons (.tup (.inl (.inl eb)) (.cons (.int _) .nil)) .nil)))
      refine ⟨_, _, dl (sl2 _ _ (st _ _ upd_same)) (sl2 _ _ (st _ _ (sl _ _ e5))), dl upd_same (sl2 _ _ upd_same), by decide +kernel, by decide +kernel, ?_⟩
      have ev : PyData.eqv (.list [.str "least", .int 1, .tuple [.int 0]]) (.list [.str "least", .int 1, .tuple [.int 0]]) = true := by decide +kernel
      rw [ev]
      exact k _
end
/-! ### the errors' classes by computation -/
def exB (K : PySem.W.Frag) (C : Addr) : Bool := xfB K C && PySem.W.keepIn K (.ref C) && decide (PySem.W.findIn K (.ref C) "__class__" = some (some (.builtin "object.__class__"))) &&
  decide (PySem.W.specialIn K (.builtin "object.__class__") "__get__" = some (some (.builtin "getset_descriptor.__get__"))) && decide (PySem.W.takesIn K (.builtin "object.__class__") = some true) && decide (PySem.W.mroIn K C (.type "object") = some true)
theorem exB_ok {K : PySem.W.Frag} {C : Addr} (h : exB K C = true) : XfC K C ∧ PySem.W.keepIn K (.ref C) = true ∧ ExcC K C := by
  unfold exB at h
  simp only [Bool.and_eq_true, decide_eq_true_eq] at h
  obtain ⟨⟨⟨⟨⟨h1, h2⟩, h3⟩, h4⟩, h5⟩, h6⟩ := h
  have x := xfB_ok h1
  exact ⟨x, h2, x.ga, x.gg, x.exC, x.hdC, h3, h4, h5, h6⟩
theorem mro_refs : ∀ l : List Value, PySem.HandSPX.refsVE l = true → MroOk l := fun l h => ⟨fun v => PySem.HandSPX.refsVE_pass v l h, PySem.HandSPX.refsVE_ne h, (PySem.HandSPX.refsVE_contains "object" l h).trans (by decide +kernel)⟩
def errTab (K : PySem.W.Frag) (cs : List Addr) (cH : Addr) : Bool := (List.range 13).all fun i => exB K (cs.getD i 0) && ((List.range 13).all fun j => decide (PySem.W.kitOne K (.ref (cs.getD i 0)) (.ref (cs.getD j 0)) = some (decide (i = j)))) &&
  decide (PySem.W.kitOne K (.ref (cs.getD i 0)) (.ref cH) = some (decide (i < 11))) && decide (PySem.W.exmOne K (.ref (cs.getD i 0)) (.ref cH) = some (decide (i < 11))) && (decide (11 ≤ i) || decide (PySem.W.findIn K (.ref (cs.getD i 0)) "value" = some none))
theorem errTab_ok {K : PySem.W.Frag} {cs : List Addr} {cH : Addr} (h : errTab K cs cH = true) : ∀ i, i < 13 → exB K (cs.getD i 0) = true ∧ (∀ j, j < 13 → PySem.W.kitOne K (.ref (cs.getD i 0)) (.ref (cs.getD j 0)) = some (decide (i = j))) ∧
    PySem.W.kitOne K (.ref (cs.getD i 0)) (.ref cH) = some (decide (i < 11)) ∧ PySem.W.exmOne K (.ref (cs.getD i 0)) (.ref cH) = some (decide (i < 11)) ∧ (i < 11 → PySem.W.findIn K (.ref (cs.getD i 0)) "value" = some none) := by
  intro i hi
  have h1 := List.all_eq_true.mp h i (List.mem_range.mpr hi)
  simp only [Bool.and_eq_true, Bool.or_eq_true, decide_eq_true_eq] at h1
  obtain ⟨⟨⟨⟨h2, h3⟩, h4⟩, h5⟩, h6⟩ := h1
  exact ⟨h2, fun j hj => of_decide_eq_true (List.all_eq_true.mp h3 j (List.mem_range.mpr hj)), h4, h5, fun q => h6.elim (fun z => absurd z (by omega)) id⟩
def erB (K : PySem.W.Frag) (C fI : Addr) : Bool := decide (PySem.W.findIn K (.ref C) "__setattr__" = some (some (.builtin "object.__setattr__"))) && decide (PySem.W.subIn K (.ref C) (.type "BaseException") = some true) &&
  decide (PySem.W.typeIn K (.ref C) = some (.type "type")) && PySem.W.keepIn K (.ref C) && decide (PySem.W.findIn K (.ref C) "__init__" = some (some (.ref fI))) && decide (PySem.W.typeIn K (.ref fI) = some (.type "function")) && decide (PySem.W.findIn K (.ref C) "value" = some none)
theorem errC_mk {K : PySem.W.Frag} {mg : Str → Option Value} {x : Str} {fI C N : Addr} {nm q : Str} {bs bm : List Value} {sn : List Str} {sub : List Value} {ab : Bool} {col : Option Bool} {dd : Option Addr} {k0 k1 k2 k3 k5 : Option Value}
    (gC : mg x = some (.ref C)) (hC : K.lookup C = some (excClassObj nm q C N bs bm true sn sub ab col dd k0 k1 k2 k3 k5 "ValueError.__new__")) (hb : PySem.HandSPX.refsVE bm = true) (h : erB K C fI = true) : ErrC K mg x C fI := by
  unfold erB at h
  simp only [Bool.and_eq_true, decide_eq_true_eq] at h
  obtain ⟨⟨⟨⟨⟨⟨h1, h2⟩, h3⟩, h4⟩, h5⟩, h6⟩, h7⟩ := h
  exact ⟨gC, ⟨⟨_, _, _, _, _, _, _, _, _, _, _, _, _, _, _, hC, hb⟩, h1, h2, h3, h4⟩, ⟨⟨_, _, _, _, _, _, _, _, _, _, _, _, _, _, _, _, _, _, _, hC, F.excBase_ValueError, fun Y => PySem.HandSPX.refsVE_contains Y bm hb, mro_refs _ hb⟩, h1, h4⟩, h5, h6, h7⟩
/-- a plain class -/
def clsB (K : PySem.W.Frag) (C : Addr) : Bool := PySem.W.plainGet K C Str.empty && PySem.W.hasDictIn K C && PySem.W.plainOver K C && decide (PySem.W.findIn K (.ref C) "__setattr__" = some (some (.builtin "object.__setattr__"))) &&
  decide (PySem.W.findIn K (.ref C) "__class__" = some (some (.builtin "object.__class__"))) && decide (PySem.W.specialIn K (.builtin "object.__class__") "__get__" = some (some (.builtin "getset_descriptor.__get__"))) &&
  decide (PySem.W.takesIn K (.builtin "object.__class__") = some true) && decide (PySem.W.mroIn K C (.type "object") = some true) && PySem.W.makesIn K C && PySem.W.keepIn K (.ref C)
theorem clsB_ok {K : PySem.W.Frag} {C : Addr} (h : clsB K C = true) : Cls K C ∧ (∀ (H : Hp) (x dx : Addr) (fs : List (Str × V)), H x = some (.ins C dx fs) → TyX K H (.ref x) (.ref C)) ∧ PySem.W.makesIn K C = true ∧ PySem.W.keepIn K (.ref C) = true := by
  unfold clsB at h
  simp only [Bool.and_eq_true, decide_eq_true_eq] at h
  obtain ⟨⟨⟨⟨⟨⟨⟨⟨⟨h1, h2⟩, h3⟩, h4⟩, h5⟩, h6⟩, h7⟩, h8⟩, h9⟩, h10⟩ := h
  have c : Cls K C := ⟨h1, h2, h3, h4⟩
  exact ⟨c, fun H x dx fs e => .base (.ins e c h5 h6 h7 h8), h9, h10⟩
def noB (K : PySem.W.Frag) (C : Addr) (fs : List Str) : Bool := fs.all fun f => decide (PySem.W.findIn K (.ref C) f = some none)
theorem noB_ok {K : PySem.W.Frag} {C : Addr} {fs : List Str} (h : noB K C fs = true) : ∀ f ∈ fs, NoAttr K C f := fun f hf => (of_decide_eq_true (List.all_eq_true.mp h f hf) : PySem.W.findIn K (.ref C) f = some none)
theorem all_mk {l : PySem.W.OpenLaw} {w : World} {K : PySem.W.Frag} {h : Heap} {mg : Str → Option Value} {fa : Addr} (X : K.In h) (G : h.Ns mainGlobals mg) (hfa : mg "law" = some (.ref fa))
    {odCo anCo : Option Addr}
    {slCo : Array (Option Value)}
    {ocCo kVCo dcCo pmCo cdCo ctCo : Value}
    {fCo : Addr}
    {odIx anIx : Option Addr}
    {slIx : Array (Option Value)}
    {ocIx kVIx dcIx pmIx cdIx ctIx : Value}
    {fIx : Addr}
    {odBt anBt : Option Addr}
    {slBt : Array (Option Value)}
    {ocBt kVBt dcBt pmBt cdBt ctBt : Value}
    {fBt : Addr}
    {odBe anBe : Option Addr}
    {slBe : Array (Option Value)}
    {ocBe kVBe dcBe pmBe cdBe ctBe : Value}
    {fBe : Addr}
    {odMi anMi : Option Addr}
    {slMi : Array (Option Value)}
    {ocMi kVMi dcMi pmMi cdMi ctMi : Value}
    {fMi : Addr}
    {odDr anDr : Option Addr}
    {slDr : Array (Option Value)}
    {ocDr kVDr dcDr pmDr cdDr ctDr : Value}
    {fDr : Addr}
    {odWh anWh : Option Addr}
    {slWh : Array (Option Value)}
    {ocWh kVWh dcWh pmWh cdWh ctWh : Value}
    {fWh : Addr}
    {odCa anCa : Option Addr}
    {slCa : Array (Option Value)}
    {ocCa kVCa dcCa pmCa cdCa ctCa : Value}
    {fCa : Addr}
    {odBa anBa : Option Addr}
    {slBa : Array (Option Value)}
    {ocBa kVBa dcBa pmBa cdBa ctBa : Value}
    {fBa : Addr}
    {odOk anOk : Option Addr}
    {slOk : Array (Option Value)}
    {ocOk kVOk dcOk pmOk cdOk ctOk : Value}
    {fOk : Addr}
    {odLa anLa : Option Addr}
    {slLa : Array (Option Value)}
    {ocLa kVLa dcLa pmLa ctLa : Value}
    {fLa : Addr}
    {cCLa PTLa : Addr}
    {ccLa : Value}
    {cd'La : Option Addr}
    {cvLa : Array Value}
    {csLa : Array (Option Value)}
    {cH fHI : Addr}
    {C0 : Addr}
    {C1 : Addr}
    {C2 : Addr}
    {C3 : Addr}
    {C4 : Addr}
    {C5 : Addr}
    {C6 : Addr}
    {C7 : Addr}
    {C8 : Addr}
    {C9 : Addr}
    {C10 : Addr}
    {C11 : Addr}
    {C12 : Addr}
    {odHI anHI : Option Addr}
    {slHI : Array (Option Value)}
    {ocHI kVHI dcHI pmHI cdHI ctHI : Value}
    {nm0 q0 : Str}
    {N0 : Addr}
    {bs0 bm0 : List Value}
    {sn0 : List Str}
    {sub0 : List Value}
    {ab0 : Bool}
    {col0 : Option Bool}
    {dd0 : Option Addr}
    {x00 x10 x20 x30 x50 : Option Value}
    {nm6 q6 : Str}
    {N6 : Addr}
    {bs6 bm6 : List Value}
    {sn6 : List Str}
    {sub6 : List Value}
    {ab6 : Bool}
    {col6 : Option Bool}
    {dd6 : Option Addr}
    {x06 x16 x26 x36 x56 : Option Value}
    {Cd : Addr}
    {odSi anSi : Option Addr}
    {slSi : Array (Option Value)}
    {ocSi kVSi dcSi pmSi cdSi ctSi : Value}
    {fSi pSi : Addr}
    {reSi : List Value}
    {odBo anBo : Option Addr}
    {slBo : Array (Option Value)}
    {ocBo kVBo dcBo pmBo cdBo ctBo : Value}
    {fBo pBo : Addr}
    {reBo : List Value}
    {odTu anTu : Option Addr}
    {slTu : Array (Option Value)}
    {ocTu kVTu dcTu pmTu cdTu ctTu : Value}
    {fTu pTu : Addr}
    {reTu : List Value}
    {odLn anLn : Option Addr}
    {slLn : Array (Option Value)}
    {ocLn kVLn dcLn pmLn cdLn ctLn : Value}
    {fLn : Addr}
    {odIt anIt : Option Addr}
    {slIt : Array (Option Value)}
    {ocIt kVIt dcIt pmIt cdIt ctIt : Value}
    {fIt : Addr}
    {odFr anFr : Option Addr}
    {slFr : Array (Option Value)}
    {ocFr kVFr dcFr pmFr cdFr ctFr : Value}
    {fFr : Addr}
    {odTo anTo : Option Addr}
    {slTo : Array (Option Value)}
    {ocTo kVTo dcTo pmTo cdTo ctTo : Value}
    {fTo : Addr}
    {odIn anIn : Option Addr}
    {slIn : Array (Option Value)}
    {ocIn dcIn pmIn cdIn ctIn : Value}
    {fIn Dk : Addr}
    {tD tE tN tU : Tok}
    {aB : Addr}
    {ocB : Value}
    {odB : Option Addr}
    {daB : PySem.Data}
    {slB : Array (Option Value)}
    (aCo : PySem.W.nsIn K mainGlobals "is_count" = some (some (.ref fCo)))
    (lCo : K.lookup fCo = some ⟨ocCo, odCo, .func (PySem.W.fnOf "is_count" "is_count" (defArgs sCount) (defBody sCount) (defScope sCount) .none kVCo dcCo pmCo anCo cdCo ctCo), slCo⟩)
    (cCo : PySem.W.codeIn K cdCo "is_count" = true)
    (kCo : PySem.W.keepIn K (.ref fCo) = true)
    (aIx : PySem.W.nsIn K mainGlobals "is_index" = some (some (.ref fIx)))
    (lIx : K.lookup fIx = some ⟨ocIx, odIx, .func (PySem.W.fnOf "is_index" "is_index" (defArgs sIndex) (defBody sIndex) (defScope sIndex) .none kVIx dcIx pmIx anIx cdIx ctIx), slIx⟩)
    (cIx : PySem.W.codeIn K cdIx "is_index" = true)
    (kIx : PySem.W.keepIn K (.ref fIx) = true)
    (aBt : PySem.W.nsIn K mainGlobals "is_between" = some (some (.ref fBt)))
    (lBt : K.lookup fBt = some ⟨ocBt, odBt, .func (PySem.W.fnOf "is_between" "is_between" (defArgs sBetween) (defBody sBetween) (defScope sBetween) .none kVBt dcBt pmBt anBt cdBt ctBt), slBt⟩)
    (cBt : PySem.W.codeIn K cdBt "is_between" = true)
    (kBt : PySem.W.keepIn K (.ref fBt) = true)
    (aBe : PySem.W.nsIn K mainGlobals "_law_begin" = some (some (.ref fBe)))
    (lBe : K.lookup fBe = some ⟨ocBe, odBe, .func (PySem.W.fnOf "_law_begin" "_law_begin" (defArgs sBegin) (defBody sBegin) (defScope sBegin) .none kVBe dcBe pmBe anBe cdBe ctBe), slBe⟩)
    (cBe : PySem.W.codeIn K cdBe "_law_begin" = true)
    (kBe : PySem.W.keepIn K (.ref fBe) = true)
    (aMi : PySem.W.nsIn K mainGlobals "_law_mixed" = some (some (.ref fMi)))
    (lMi : K.lookup fMi = some ⟨ocMi, odMi, .func (PySem.W.fnOf "_law_mixed" "_law_mixed" (defArgs sMixed) (defBody sMixed) (defScope sMixed) .none kVMi dcMi pmMi anMi cdMi ctMi), slMi⟩)
    (cMi : PySem.W.codeIn K cdMi "_law_mixed" = true)
    (kMi : PySem.W.keepIn K (.ref fMi) = true)
    (aDr : PySem.W.nsIn K mainGlobals "_law_draw" = some (some (.ref fDr)))
    (lDr : K.lookup fDr = some ⟨ocDr, odDr, .func (PySem.W.fnOf "_law_draw" "_law_draw" (defArgs sDraw) (defBody sDraw) (defScope sDraw) .none kVDr dcDr pmDr anDr cdDr ctDr), slDr⟩)
    (cDr : PySem.W.codeIn K cdDr "_law_draw" = true)
    (kDr : PySem.W.keepIn K (.ref fDr) = true)
    (aWh : PySem.W.nsIn K mainGlobals "_law_which" = some (some (.ref fWh)))
    (lWh : K.lookup fWh = some ⟨ocWh, odWh, .func (PySem.W.fnOf "_law_which" "_law_which" (defArgs sWhich) (defBody sWhich) (defScope sWhich) .none kVWh dcWh pmWh anWh cdWh ctWh), slWh⟩)
    (cWh : PySem.W.codeIn K cdWh "_law_which" = true)
    (kWh : PySem.W.keepIn K (.ref fWh) = true)
    (aCa : PySem.W.nsIn K mainGlobals "_law_caught" = some (some (.ref fCa)))
    (lCa : K.lookup fCa = some ⟨ocCa, odCa, .func (PySem.W.fnOf "_law_caught" "_law_caught" (defArgs sCaught) (defBody sCaught) (defScope sCaught) .none kVCa dcCa pmCa anCa cdCa ctCa), slCa⟩)
    (cCa : PySem.W.codeIn K cdCa "_law_caught" = true)
    (kCa : PySem.W.keepIn K (.ref fCa) = true)
    (aBa : PySem.W.nsIn K mainGlobals "_law_bad_number" = some (some (.ref fBa)))
    (lBa : K.lookup fBa = some ⟨ocBa, odBa, .func (PySem.W.fnOf "_law_bad_number" "_law_bad_number" (defArgs sBad) (defBody sBad) (defScope sBad) .none kVBa dcBa pmBa anBa cdBa ctBa), slBa⟩)
    (cBa : PySem.W.codeIn K cdBa "_law_bad_number" = true)
    (kBa : PySem.W.keepIn K (.ref fBa) = true)
    (aOk : PySem.W.nsIn K mainGlobals "_law_ok" = some (some (.ref fOk)))
    (lOk : K.lookup fOk = some ⟨ocOk, odOk, .func (PySem.W.fnOf "_law_ok" "_law_ok" (defArgs sOk) (defBody sOk) (defScope sOk) .none kVOk dcOk pmOk anOk cdOk ctOk), slOk⟩)
    (cOk : PySem.W.codeIn K cdOk "_law_ok" = true)
    (kOk : PySem.W.keepIn K (.ref fOk) = true)
    (aLa : PySem.W.nsIn K mainGlobals "law" = some (some (.ref fLa)))
    (lLa : K.lookup fLa = some ⟨ocLa, odLa, .func (PySem.W.fnOf "law" "law" (defArgs sLaw) (defBody sLaw) (defScope sLaw) .none kVLa dcLa pmLa anLa (.ref cCLa) ctLa), slLa⟩)
    (cLa : PySem.W.codeIn K (.ref cCLa) "law" = true)
    (kLa : PySem.W.keepIn K (.ref fLa) = true)
    (tCLa : K.lookup cCLa = some ⟨ccLa, cd'La, .fields cvLa, csLa⟩)
    (tPLa : cvLa[11]? = some (.ref PTLa))
    (tNLa : K.lookup PTLa = none)
    (tHLa : PySem.W.codeHdIn K cCLa PTLa = true)
    (tTLa : h.get? PTLa = some { cls := .none, data := .fields #[] })
    (hH : PySem.W.nsIn K mainGlobals "HandleError" = some (some (.ref cH)))
    (n0 : PySem.W.nsIn K mainGlobals "InvalidNumber" = some (some (.ref C0)))
    (n1 : PySem.W.nsIn K mainGlobals "InvalidName" = some (some (.ref C1)))
    (n2 : PySem.W.nsIn K mainGlobals "InvalidRow" = some (some (.ref C2)))
    (n3 : PySem.W.nsIn K mainGlobals "InvalidSort" = some (some (.ref C3)))
    (n4 : PySem.W.nsIn K mainGlobals "InvalidProgram" = some (some (.ref C4)))
    (n5 : PySem.W.nsIn K mainGlobals "InvalidText" = some (some (.ref C5)))
    (n6 : PySem.W.nsIn K mainGlobals "InvalidBook" = some (some (.ref C6)))
    (n7 : PySem.W.nsIn K mainGlobals "InvalidHands" = some (some (.ref C7)))
    (n8 : PySem.W.nsIn K mainGlobals "InvalidStep" = some (some (.ref C8)))
    (n9 : PySem.W.nsIn K mainGlobals "InvalidEdit" = some (some (.ref C9)))
    (n10 : PySem.W.nsIn K mainGlobals "InvalidCommand" = some (some (.ref C10)))
    (n11 : PySem.W.nsIn K mainGlobals "TooMany" = some (some (.ref C11)))
    (n12 : PySem.W.nsIn K mainGlobals "NothingToUndo" = some (some (.ref C12)))
    (iHI : PySem.W.findIn K (.ref cH) "__init__" = some (some (.ref fHI)))
    (lHI : K.lookup fHI = some ⟨ocHI, odHI, .func (PySem.W.fnOf "__init__" "HandleError.__init__" (defArgs sHInit) (defBody sHInit) (defScope sHInit) .none kVHI dcHI pmHI anHI cdHI ctHI), slHI⟩)
    (cHI : PySem.W.codeIn K cdHI "HandleError.__init__" = true)
    (kHI : PySem.W.keepIn K (.ref fHI) = true)
    (eT : errTab K [C0, C1, C2, C3, C4, C5, C6, C7, C8, C9, C10, C11, C12] cH = true)
    (e0 : K.lookup C0 = some (excClassObj nm0 q0 C0 N0 bs0 bm0 true sn0 sub0 ab0 col0 dd0 x00 x10 x20 x30 x50 "ValueError.__new__"))
    (m0 : PySem.HandSPX.refsVE bm0 = true)
    (r0 : erB K C0 fHI = true)
    (e6 : K.lookup C6 = some (excClassObj nm6 q6 C6 N6 bs6 bm6 true sn6 sub6 ab6 col6 dd6 x06 x16 x26 x36 x56 "ValueError.__new__"))
    (m6 : PySem.HandSPX.refsVE bm6 = true)
    (r6 : erB K C6 fHI = true)
    (hC : PySem.W.nsIn K mainGlobals "Table" = some (some (.ref Cd)))
    (bCl : clsB K Cd = true)
    (nCl : noB K Cd ["_size", "_book", "_turns", "_entries", "_counts", "_many_entries", "_start", "_freed"] = true)
    (fpSi : PySem.W.findIn K (.ref Cd) "size" = some (some (.ref pSi)))
    (gpSi : PySem.W.specialIn K (.ref pSi) "__get__" = some (some (.builtin "property.__get__")))
    (tpSi : PySem.W.takesIn K (.ref pSi) = some true)
    (rpSi : PySem.W.recIn K pSi "property" = some (.ref fSi :: reSi))
    (lSi : K.lookup fSi = some ⟨ocSi, odSi, .func (PySem.W.fnOf "size" "Table.size" (defArgs sTbSize) (defBody sTbSize) (defScope sTbSize) .none kVSi dcSi pmSi anSi cdSi ctSi), slSi⟩)
    (cSi : PySem.W.codeIn K cdSi "Table.size" = true)
    (kSi : PySem.W.keepIn K (.ref fSi) = true)
    (fpBo : PySem.W.findIn K (.ref Cd) "book" = some (some (.ref pBo)))
    (gpBo : PySem.W.specialIn K (.ref pBo) "__get__" = some (some (.builtin "property.__get__")))
    (tpBo : PySem.W.takesIn K (.ref pBo) = some true)
    (rpBo : PySem.W.recIn K pBo "property" = some (.ref fBo :: reBo))
    (lBo : K.lookup fBo = some ⟨ocBo, odBo, .func (PySem.W.fnOf "book" "Table.book" (defArgs sTbBook) (defBody sTbBook) (defScope sTbBook) .none kVBo dcBo pmBo anBo cdBo ctBo), slBo⟩)
    (cBo : PySem.W.codeIn K cdBo "Table.book" = true)
    (kBo : PySem.W.keepIn K (.ref fBo) = true)
    (fpTu : PySem.W.findIn K (.ref Cd) "turns" = some (some (.ref pTu)))
    (gpTu : PySem.W.specialIn K (.ref pTu) "__get__" = some (some (.builtin "property.__get__")))
    (tpTu : PySem.W.takesIn K (.ref pTu) = some true)
    (rpTu : PySem.W.recIn K pTu "property" = some (.ref fTu :: reTu))
    (lTu : K.lookup fTu = some ⟨ocTu, odTu, .func (PySem.W.fnOf "turns" "Table.turns" (defArgs sTbTurns) (defBody sTbTurns) (defScope sTbTurns) .none kVTu dcTu pmTu anTu cdTu ctTu), slTu⟩)
    (cTu : PySem.W.codeIn K cdTu "Table.turns" = true)
    (kTu : PySem.W.keepIn K (.ref fTu) = true)
    (fmLn : PySem.W.findIn K (.ref Cd) "__len__" = some (some (.ref fLn)))
    (lLn : K.lookup fLn = some ⟨ocLn, odLn, .func (PySem.W.fnOf "__len__" "Table.__len__" (defArgs sTbLen) (defBody sTbLen) (defScope sTbLen) .none kVLn dcLn pmLn anLn cdLn ctLn), slLn⟩)
    (cLn : PySem.W.codeIn K cdLn "Table.__len__" = true)
    (kLn : PySem.W.keepIn K (.ref fLn) = true)
    (fnLn : PySem.W.isFn K (.ref fLn) = true)
    (fmIt : PySem.W.findIn K (.ref Cd) "__getitem__" = some (some (.ref fIt)))
    (lIt : K.lookup fIt = some ⟨ocIt, odIt, .func (PySem.W.fnOf "__getitem__" "Table.__getitem__" (defArgs sTbItem) (defBody sTbItem) (defScope sTbItem) .none kVIt dcIt pmIt anIt cdIt ctIt), slIt⟩)
    (cIt : PySem.W.codeIn K cdIt "Table.__getitem__" = true)
    (kIt : PySem.W.keepIn K (.ref fIt) = true)
    (fnIt : PySem.W.isFn K (.ref fIt) = true)
    (fmFr : PySem.W.findIn K (.ref Cd) "free" = some (some (.ref fFr)))
    (lFr : K.lookup fFr = some ⟨ocFr, odFr, .func (PySem.W.fnOf "free" "Table.free" (defArgs sTbFree) (defBody sTbFree) (defScope sTbFree) .none kVFr dcFr pmFr anFr cdFr ctFr), slFr⟩)
    (cFr : PySem.W.codeIn K cdFr "Table.free" = true)
    (kFr : PySem.W.keepIn K (.ref fFr) = true)
    (fnFr : PySem.W.isFn K (.ref fFr) = true)
    (fmTo : PySem.W.findIn K (.ref Cd) "_told" = some (some (.ref fTo)))
    (lTo : K.lookup fTo = some ⟨ocTo, odTo, .func (PySem.W.fnOf "_told" "Table._told" (defArgs sTbTold) (defBody sTbTold) (defScope sTbTold) .none kVTo dcTo pmTo anTo cdTo ctTo), slTo⟩)
    (cTo : PySem.W.codeIn K cdTo "Table._told" = true)
    (kTo : PySem.W.keepIn K (.ref fTo) = true)
    (fnTo : PySem.W.isFn K (.ref fTo) = true)
    (fiIt : PySem.W.fnIn K fIt = true)
    (fmIn : PySem.W.findIn K (.ref Cd) "__init__" = some (some (.ref fIn)))
    (lIn : K.lookup fIn = some ⟨ocIn, odIn, .func (PySem.W.fnOf "__init__" "Table.__init__" (defArgs sTbInit) (defBody sTbInit) (defScope sTbInit) .none (.ref Dk) dcIn pmIn anIn cdIn ctIn), slIn⟩)
    (cIn : PySem.W.codeIn K cdIn "Table.__init__" = true)
    (kIn : PySem.W.keepIn K (.ref fIn) = true)
    (fnIn' : PySem.W.isFn K (.ref fIn) = true)
    (nD : PySem.W.nsIn K Dk "book" = some (some (.str "least" tD)))
    (nE : PySem.W.nsIn K Dk "turns" = some (some (.int 1 tE)))
    (hB : PySem.W.nsIn K mainGlobals "BOOKS" = some (some (.ref aB)))
    (lB : K.lookup aB = some ⟨ocB, odB, daB, slB⟩)
    (iB : isTupV ocB daB booksL = true)
    (hN : PySem.W.nsIn K mainGlobals "MOST_NUMBERS" = some (some (.int 60 tN)))
    (hU : PySem.W.nsIn K mainGlobals "MOST_TURNS" = some (some (.int 4 tU)))
    (z_int : PySem.W.nsIn K mainGlobals "int" = some none)
    (z_abs : PySem.W.nsIn K mainGlobals "abs" = some none)
    (z_len : PySem.W.nsIn K mainGlobals "len" = some none)
    (z_str : PySem.W.nsIn K mainGlobals "str" = some none)
    (z_range : PySem.W.nsIn K mainGlobals "range" = some none)
    (z_isinstance : PySem.W.nsIn K mainGlobals "isinstance" = some none)
    (z_bool : PySem.W.nsIn K mainGlobals "bool" = some none)
    (z_repr : PySem.W.nsIn K mainGlobals "repr" = some none)
    (z_tuple : PySem.W.nsIn K mainGlobals "tuple" = some none)
    (z_enumerate : PySem.W.nsIn K mainGlobals "enumerate" = some none)
    : ∃ (fd : FuncData) (cs : List (Addr × Addr)) (sp : Sp), (∀ p ∈ cs, h.get? p.2 = some { cls := .none, data := .fields #[] } ∧ K.lookup p.2 = none ∧ PySem.W.CodeHd h p.1 p.2) ∧
        (∀ (H : Hp) (a : Addr) (ns : List Int), ns.length ≤ 63 → (∀ z ∈ ns, Builtin.Int.intBits z ≤ 1048576) → (∀ p ∈ cs, H p.2 = some (.tbl #[])) → SqL K H a (ns.map V.int) → sp [.ref a] H (fun v _ => v = .bl true) fun _ _ _ => False) ∧
        (∀ (s : Shared) (u : Value), BindsTo s fd ⟨[u], []⟩ [("script", u)]) ∧
        ∀ base : Heap, K.In base → base.Ns mainGlobals mg → (∀ p ∈ cs, LamX.TabB base mg p.1 p.2) → FnG l.prog w K mg base CX0 9 fa fd ["script"] sp := by
  have e := hfa.symm.trans (PySem.W.mg_of X G aLa)
  cases e
  have FCo := fun_mk (st := sCount) lCo cCo kCo
  have FIx := fun_mk (st := sIndex) lIx cIx kIx
  have FBt := fun_mk (st := sBetween) lBt cBt kBt
  have FBe := fun_mk (st := sBegin) lBe cBe kBe
  have FMi := fun_mk (st := sMixed) lMi cMi kMi
  have FDr := fun_mk (st := sDraw) lDr cDr kDr
  have FWh := fun_mk (st := sWhich) lWh cWh kWh
  have FCa := fun_mk (st := sCaught) lCa cCa kCa
  have FBa := fun_mk (st := sBad) lBa cBa kBa
  have FOk := fun_mk (st := sOk) lOk cOk kOk
  have FSi := fun_mk (st := sTbSize) lSi cSi kSi
  have FBo := fun_mk (st := sTbBook) lBo cBo kBo
  have FTu := fun_mk (st := sTbTurns) lTu cTu kTu
  have FLn := fun_mk (st := sTbLen) lLn cLn kLn
  have FIt := fun_mk (st := sTbItem) lIt cIt kIt
  have FFr := fun_mk (st := sTbFree) lFr cFr kFr
  have FTo := fun_mk (st := sTbTold) lTo cTo kTo
  have FHI := fun_mk (st := sHInit) lHI cHI kHI
  have gCo := PySem.W.mg_of X G aCo
  have gIx := PySem.W.mg_of X G aIx
  have gBt := PySem.W.mg_of X G aBt
  have gBe := PySem.W.mg_of X G aBe
  have gMi := PySem.W.mg_of X G aMi
  have gDr := PySem.W.mg_of X G aDr
  have gWh := PySem.W.mg_of X G aWh
  have gCa := PySem.W.mg_of X G aCa
  have gBa := PySem.W.mg_of X G aBa
  have gOk := PySem.W.mg_of X G aOk
  have BCo := FCo.binds (ps := ["value"]) fun _ _ _ _ _ _ us hl => match us, hl with | [_], _ => rfl
  have BIx := FIx.binds (ps := ["value", "many"]) fun _ _ _ _ _ _ us hl => match us, hl with | [_, _], _ => rfl
  have BBt := FBt.binds (ps := ["value", "least", "most"]) fun _ _ _ _ _ _ us hl => match us, hl with | [_, _, _], _ => rfl
  have BBe := FBe.binds (ps := ["script"]) fun _ _ _ _ _ _ us hl => match us, hl with | [_], _ => rfl
  have BMi := FMi.binds (ps := ["pool", "many"]) fun _ _ _ _ _ _ us hl => match us, hl with | [_, _], _ => rfl
  have BDr := FDr.binds (ps := ["pool", "many"]) fun _ _ _ _ _ _ us hl => match us, hl with | [_, _], _ => rfl
  have BWh := FWh.binds (ps := ["error"]) fun _ _ _ _ _ _ us hl => match us, hl with | [_], _ => rfl
  have BCa := FCa.binds (ps := ["call"]) fun _ _ _ _ _ _ us hl => match us, hl with | [_], _ => rfl
  have BBa := FBa.binds (ps := ["pool"]) fun _ _ _ _ _ _ us hl => match us, hl with | [_], _ => rfl
  have BOk := FOk.binds (ps := ["value", "low", "high"]) fun _ _ _ _ _ _ us hl => match us, hl with | [_, _, _], _ => rfl
  have BSi := FSi.binds (ps := ["self"]) fun _ _ _ _ _ _ us hl => match us, hl with | [_], _ => rfl
  have BBo := FBo.binds (ps := ["self"]) fun _ _ _ _ _ _ us hl => match us, hl with | [_], _ => rfl
  have BTu := FTu.binds (ps := ["self"]) fun _ _ _ _ _ _ us hl => match us, hl with | [_], _ => rfl
  have BLn := FLn.binds (ps := ["self"]) fun _ _ _ _ _ _ us hl => match us, hl with | [_], _ => rfl
  have BIt := FIt.binds (ps := ["self", "at"]) fun _ _ _ _ _ _ us hl => match us, hl with | [_, _], _ => rfl
  have BFr := FFr.binds (ps := ["self"]) fun _ _ _ _ _ _ us hl => match us, hl with | [_], _ => rfl
  have BTo := FTo.binds (ps := ["self", "numbers"]) fun _ _ _ _ _ _ us hl => match us, hl with | [_, _], _ => rfl
  have BHI := FHI.binds (ps := ["self", "value"]) fun _ _ _ _ _ _ us hl => match us, hl with | [_, _], _ => rfl
  obtain ⟨cl, tyI, mk1, mk2⟩ := clsB_ok bCl
  have no := noB_ok nCl
  have err := errTab_ok eT
  have TC : TbCls K mg Cd := ⟨cl, no _ (by simp), no _ (by simp), no _ (by simp), no _ (by simp), no _ (by simp), no _ (by simp), no _ (by simp), no _ (by simp), PySem.W.mg_of X G hC⟩
  have TX : TbTxt K mg aB := ⟨PySem.W.mg_of X G hB, fun H => sqT_written lB iB, PySem.W.mg_none_of X G z_str, ⟨_, PySem.W.mg_of X G hN⟩, ⟨_, PySem.W.mg_of X G hU⟩⟩
  have TX2 : TbTxt2 mg := ⟨PySem.W.mg_none_of X G z_len, PySem.W.mg_none_of X G z_tuple, PySem.W.mg_none_of X G z_enumerate⟩
  have T : HTxt K mg cH [C0, C1, C2, C3, C4, C5, C6, C7, C8, C9, C10, C11, C12] := ⟨PySem.W.mg_none_of X G z_isinstance, PySem.W.mg_none_of X G z_repr, PySem.W.mg_of X G hH, PySem.W.mg_of X G n0, PySem.W.mg_of X G n1, PySem.W.mg_of X G n2, PySem.W.mg_of X G n3, PySem.W.mg_of X G n4, PySem.W.mg_of X G n5, PySem.W.mg_of X G n6, PySem.W.mg_of X G n7, PySem.W.mg_of X G n8, PySem.W.mg_of X G n9, PySem.W.mg_of X G n10, PySem.W.mg_of X G n11, PySem.W.mg_of X G n12,
    fun i hi => (exB_ok (err i hi).1).2.2, fun i hi => (exB_ok (err i (by omega)).1).1, fun i hi => (err i (by omega)).2.2.2.2 hi, fun i j hi hj => (err i hi).2.1 j hj, fun i hi => (err i hi).2.2.1, fun i hi => (err i hi).2.2.2.1⟩
  have PT : PTxt mg := ⟨PySem.W.mg_none_of X G z_int, PySem.W.mg_none_of X G z_abs, PySem.W.mg_none_of X G z_len, PySem.W.mg_none_of X G z_str, PySem.W.mg_none_of X G z_range⟩
  have MT : MTxt K mg := ⟨PySem.W.mg_none_of X G z_isinstance, PySem.W.mg_none_of X G z_int, PySem.W.mg_none_of X G z_bool⟩
  have E0' : ErrC K mg "InvalidNumber" C0 fHI := errC_mk (PySem.W.mg_of X G n0) e0 m0 r0
  have E6' : ErrC K mg "InvalidBook" C6 fHI := errC_mk (PySem.W.mg_of X G n6) e6 m6 r6
  have FIn : FunD K "__init__" "Table.__init__" (defArgs sTbInit) (defBody sTbInit) (defScope sTbInit) [] [("book", .str "least"), ("turns", .int 1)] fIn _ :=
    ⟨⟨_, _, _, _, _, _, _, _, _, _, rfl, lIn, cIn, .inl ⟨rfl, rfl⟩, .inr ⟨Dk, rfl, fun q hq => by
      rcases List.mem_cons.mp hq with rfl | hq
      · exact ⟨_, nD, _, rfl⟩
      · rw [List.mem_singleton.mp hq]
        exact ⟨_, nE, _, rfl⟩⟩⟩, kIn⟩
  obtain ⟨kb, ds1, d1, b1⟩ := tb_binds FIn
  refine ⟨PySem.W.fnOf "law" "law" (defArgs sLaw) (defBody sLaw) (defScope sLaw) .none kVLa dcLa pmLa anLa (.ref cCLa) ctLa, [(cCLa, PTLa)], spLaw K PTLa, fun p hp => ?_, fun H a ns hl _ hc hS => ?_, fun s v => .of_eq rfl, fun base _ _ hTB => ?_⟩
  · rw [List.mem_singleton.mp hp]
    exact ⟨tTLa, tNLa, PySem.W.codeHd_of_K X tHLa⟩
  · exact ⟨a, ns, rfl, hS, hl, hc _ (List.mem_singleton.mpr rfl), fun _ => rfl⟩
  · have GDr : FnOk l.prog w K mg base CX0 2 fDr _ ["pool", "many"] spDraw := ok_draw FDr PT FMi BMi gMi
    exact ok_law lLa cLa T PT MT TC TX (hTB _ (List.mem_singleton.mpr rfl)) FBe BBe gBe (ok_begin FBe PT) FDr BDr gDr GDr FBa BBa gBa (ok_bad FBa FDr BDr gDr GDr) FOk BOk gOk (ok_ok FOk MT) FWh BWh gWh gCa kCa lCa cCa BCa
      ⟨mk1, fmIn, fnIn', mk2⟩ (ok_table FIn MT TC TX E0' E6' FHI BHI FBt BBt gBt (ok_between FBt FCo MT BCo gCo)) kb b1 d1 ⟨fpSi, gpSi, tpSi, _, rpSi⟩ (ok_tbSize FSi) BSi ⟨fpBo, gpBo, tpBo, _, rpBo⟩ (ok_tbBook FBo) BBo ⟨fpTu, gpTu, tpTu, _, rpTu⟩ (ok_tbTurns FTu) BTu
      fmLn fnLn (ok_tbLen FLn TC TX2) BLn fmIt fiIt fnIt (ok_tbItem FIt TC E0' FHI BHI FIx BIx gIx (ok_index FIx FCo MT BCo gCo)) BIt ⟨fmFr, fnFr, kFr⟩ (ok_tbFree FFr TC TX2 ⟨fmTo, fnTo, kTo⟩ FTo BTo) BFr
end Toy

open PySem PySem.W PyProof.Rows in
set_option maxRecDepth 100000 in
set_option maxHeartbeats 0 in
theorem PySem.Challenge.cw_handlesagain_k07_tables_refused_holds : PySem.Challenge.rw_handlesagain_k07_tables_refused.Holds := by
  w_on; o_law; k_head; (case hw => w_witness2)
  k_fill
  refine Toy.walkGT (l := PySem.Challenge.rw_handlesagain_k07_tables_refused) (k := 9) (CX := fun _ => L2.CX0) rfl rfl ⟨rfl, by decide, by decide⟩ (fun w h Y => PySem.W.km_in_of Y) (fun _ _ _ _ _ z => z) ?F
  case F =>
    intro w mg fa h Y KX G hmg
    refine' Toy.all_mk KX G hmg ?aCo ?lCo ?cCo ?kCo ?aIx ?lIx ?cIx ?kIx ?aBt ?lBt ?cBt ?kBt ?aBe ?lBe ?cBe ?kBe ?aMi ?lMi ?cMi ?kMi ?aDr ?lDr ?cDr ?kDr ?aWh ?lWh ?cWh ?kWh ?aCa ?lCa ?cCa ?kCa ?aBa ?lBa ?cBa ?kBa ?aOk ?lOk ?cOk ?kOk ?aLa ?lLa ?cLa ?kLa ?tCLa ?tPLa ?tNLa ?tHLa ?tTLa ?hH ?n0 ?n1 ?n2 ?n3 ?n4 ?n5 ?n6 ?n7 ?n8 ?n9 ?n10 ?n11 ?n12 ?iHI ?lHI ?cHI ?kHI ?eT ?e0 ?m0 ?r0 ?e6 ?m6 ?r6 ?hC ?bCl ?nCl ?fpSi ?gpSi ?tpSi ?rpSi ?lSi ?cSi ?kSi ?fpBo ?gpBo ?tpBo ?rpBo ?lBo ?cBo ?kBo ?fpTu ?gpTu ?tpTu ?rpTu ?lTu ?cTu ?kTu ?fmLn ?lLn ?cLn ?kLn ?fnLn ?fmIt ?lIt ?cIt ?kIt ?fnIt ?fmFr ?lFr ?cFr ?kFr ?fnFr ?fmTo ?lTo ?cTo ?kTo ?fnTo ?fiIt ?fmIn ?lIn ?cIn ?kIn ?fnIn' ?nD ?nE ?hB ?lB ?iB ?hN ?hU ?z_int ?z_abs ?z_len ?z_str ?z_range ?z_isinstance ?z_bool ?z_repr ?z_tuple ?z_enumerate
    (case aCo => k_is)
    (case lCo => k_is)
    (case cCo => k_is)
    (case kCo => k_is)
    (case aIx => k_is)
    (case lIx => k_is)
    (case cIx => k_is)
    (case kIx => k_is)
    (case aBt => k_is)
    (case lBt => k_is)
    (case cBt => k_is)
    (case kBt => k_is)
    (case aBe => k_is)
    (case lBe => k_is)
    (case cBe => k_is)
    (case kBe => k_is)
    (case aMi => k_is)
    (case lMi => k_is)
    (case cMi => k_is)
    (case kMi => k_is)
    (case aDr => k_is)
    (case lDr => k_is)
    (case cDr => k_is)
    (case kDr => k_is)
    (case aWh => k_is)
    (case lWh => k_is)
    (case cWh => k_is)
    (case kWh => k_is)
    (case aCa => k_is)
    (case lCa => k_is)
    (case cCa => k_is)
    (case kCa => k_is)
    (case aBa => k_is)
    (case lBa => k_is)
    (case cBa => k_is)
    (case kBa => k_is)
    (case aOk => k_is)
    (case lOk => k_is)
    (case cOk => k_is)
    (case kOk => k_is)
    (case aLa => k_is)
    (case lLa => k_is)
    (case cLa => k_is)
    (case kLa => k_is)
    (case tCLa => k_is)
    (case tPLa => exact rfl)
    (case tNLa => kernel_rfl)
    (case tHLa => kernel_rfl)
    (case tTLa => exact PySem.W.km_tabs_of Y _ (by decide))
    (case hH => k_is)
    (case n0 => k_is)
    (case n1 => k_is)
    (case n2 => k_is)
    (case n3 => k_is)
    (case n4 => k_is)
    (case n5 => k_is)
    (case n6 => k_is)
    (case n7 => k_is)
    (case n8 => k_is)
    (case n9 => k_is)
    (case n10 => k_is)
    (case n11 => k_is)
    (case n12 => k_is)
    (case iHI => k_is)
    (case lHI => k_is)
    (case cHI => k_is)
    (case kHI => k_is)
    (case eT => kernel_rfl)
    (case e0 => k_is)
    (case m0 => decide +kernel)
    (case r0 => kernel_rfl)
    (case e6 => k_is)
    (case m6 => decide +kernel)
    (case r6 => kernel_rfl)
    (case hC => k_is)
    (case bCl => kernel_rfl)
    (case nCl => kernel_rfl)
    (case fpSi => k_is)
    (case gpSi => k_is)
    (case tpSi => k_is)
    (case rpSi => k_is)
    (case lSi => k_is)
    (case cSi => k_is)
    (case kSi => k_is)
    (case fpBo => k_is)
    (case gpBo => k_is)
    (case tpBo => k_is)
    (case rpBo => k_is)
    (case lBo => k_is)
    (case cBo => k_is)
    (case kBo => k_is)
    (case fpTu => k_is)
    (case gpTu => k_is)
    (case tpTu => k_is)
    (case rpTu => k_is)
    (case lTu => k_is)
    (case cTu => k_is)
    (case kTu => k_is)
    (case fmLn => k_is)
    (case lLn => k_is)
    (case cLn => k_is)
    (case kLn => k_is)
    (case fnLn => k_is)
    (case fmIt => k_is)
    (case lIt => k_is)
    (case cIt => k_is)
    (case kIt => k_is)
    (case fnIt => k_is)
    (case fmFr => k_is)
    (case lFr => k_is)
    (case cFr => k_is)
    (case kFr => k_is)
    (case fnFr => k_is)
    (case fmTo => k_is)
    (case lTo => k_is)
    (case cTo => k_is)
    (case kTo => k_is)
    (case fnTo => k_is)
    (case fiIt => k_is)
    (case fmIn => k_is)
    (case lIn => k_is)
    (case cIn => k_is)
    (case kIn => k_is)
    (case fnIn' => k_is)
    (case nD => k_is)
    (case nE => k_is)
    (case hB => k_is)
    (case lB => k_is)
    (case iB => kernel_rfl)
    (case hN => k_is)
    (case hU => k_is)
    (case z_int => k_is)
    (case z_abs => k_is)
    (case z_len => k_is)
    (case z_str => k_is)
    (case z_range => k_is)
    (case z_isinstance => k_is)
    (case z_bool => k_is)
    (case z_repr => k_is)
    (case z_tuple => k_is)
    (case z_enumerate => k_is)
